import PyProof.Rows.All
import Wide.All
import OpenK.AllK
import Wide.FinOn
import PyProof.EqAt
import PyProof.EqKinds
import PyProof.TupleCall
import PyProof.RulesMatchSeq
import PyProof.Rows.MatchSeqLen
import HandS.ForMost
import HandS.Walk
import HandS.Iter
import HandS.Text
import HandS.IsInst
import PyProof.RulesMatchSingle
import HandS.Wide
import HandS.ExcInit
import HandS.ExcOwn
import HandS.ExcField
import KE.KExcIs
import HandS.More
import HandS.WideBits
import HandS.StrMore
import HandS.WordsExc
import HandS.SortKw
import PyProof.MinMaxWalk
import PyProof.WalkInts
import KE.KMinKey
import KE.IntTextLaws
import HandS.Dict
import HandS.TryOnly
import PyProof.P3Eq
import HandS.SetTxt0
import HandS.Set
import HandS.SetFor
import PyProof.Rows.SetFrom
import HandS.Strs
import HandS.DictComp
import HandS.Conv
import PySem.Challenge.RW_quotedback_k18_names_steady_and_no_sums
set_option Elab.async false
set_option linter.all false
set_option maxRecDepth 100000
set_option maxHeartbeats 8000000
namespace PySem
namespace Qb
open PySem.W PySem.Calls PyProof.Rows L2
/-! # match over tuples, texts and names -/
/-- what a pattern asks: the values of its names in their order, or that it does not fit -/
abbrev PatR := V → Hp → (Option (List V) → Prop) → Prop
def PatE (X : Cx) (pins : List (Addr × Obj)) (σ : L2.St) (H : Hp) (ns : List Str) (Q : Option (List V) → Prop) (res : Option (List (Str × Value))) (s : Shared) : Prop :=
  Inv X pins σ H s ∧ match res with
    | none => Q none
    | some bs => bs.map (·.1) = ns ∧ ∃ vs, Vals vs (bs.map (·.2)) ∧ Q (some vs)
structure PPt (X : Cx) (pat : Pattern) (ns : List Str) (r : PatR) : Prop where
  run : ∀ (pins : List (Addr × Obj)) (s : Shared) (σ : L2.St) (H : Hp) (v : V) (u : Value) (Q : Option (List V) → Prop), Inv X pins σ H s → RelV v u → r v H Q →
    wpAny (model X.prog X.w) X.A (matchPattern pat X.env u) (fun res s1 => PatE X pins σ H ns Q res s1) X.xe s
def rEach : List PatR → List V → Hp → (Option (List V) → Prop) → Prop
  | r :: rs, x :: xs, H, Q => r x H fun o => match o with
    | none => Q none
    | some vs => rEach rs xs H fun o' => match o' with
      | none => Q none
      | some more => Q (some (vs ++ more))
  | _, _, _, Q => Q (some [])
structure PPs (X : Cx) (pats : List Pattern) (ns : List Str) (rs : List PatR) : Prop where
  len : rs.length = pats.length
  run : ∀ (pins : List (Addr × Obj)) (s : Shared) (σ : L2.St) (H : Hp) (vs : List V) (us : List Value) (Q : Option (List V) → Prop), Inv X pins σ H s → Vals vs us → vs.length = pats.length → rEach rs vs H Q →
    wpAny (model X.prog X.w) X.A (matchEach pats X.env us) (fun res s1 => PatE X pins σ H ns Q res s1) X.xe s
theorem ext_keeps {h h2 : Heap} (ex : Heap.ExtBut h.objs.size h h2) (b : Addr) (o : Obj) (z : h.get? b = some o) : h2.get? b = some o := by
  exact ex b o (Nat.ne_of_lt (Heap.lt_size z)) z
section
variable {X : Cx} {pos pos' : Pos}
def rLit (c : Str) : PatR := fun v _ Q => ∃ y, v = .str y ∧ Q (if y = c then some [] else none)
theorem pp_lit {c : Str} {j : Nat} : PPt X (.MatchValue (.Constant (.str c) j pos) pos') [] (rLit c) := by
  refine ⟨fun pins s σ H v u Q I r h => wpAny_matchPattern_Value ?_⟩
  obtain ⟨y, rfl, q⟩ := h
  refine thn (pe_str.run pins s σ H (fun z H1 => z = .str c ∧ H1 = H) I ⟨rfl, rfl⟩) fun x s1 ⟨z, H1, I1, rz, ez, eH⟩ => ?_
  subst ez
  subst eH
  refine thn (op_eq pins s1 σ H1 (.str y) (.str c) u x (fun w H2 => w = .bl (decide (V.str y = V.str c)) ∧ H2 = H1) I1 r rz ⟨rfl, rfl, rfl⟩) fun b s2 ⟨w, H2, I2, rw2, ew, eH⟩ => ?_
  subst ew
  subst eH
  obtain rfl : b = Value.bool (decide (V.str y = V.str c)) := rw2
  show wpAny _ _ (truthy (.bool _)) _ _ _
  refine wpAny_pure ?_
  by_cases e : y = c
  · rw [if_pos e] at q
    rw [if_pos (by simpa using e)]
    exact ⟨I2, rfl, [], .nil, q⟩
  · rw [if_neg e] at q
    rw [if_neg (by simpa using e)]
    exact ⟨I2, q⟩
def rCap : PatR := fun v _ Q => Q (some [v])
theorem pp_cap {n : Str} : PPt X (.MatchAs none (some n) pos) [n] rCap :=
  ⟨fun pins s σ H v u Q I r h => wpAny_matchPattern_Capture ⟨I, rfl, [v], .cons r .nil, h⟩⟩
def rAny1 : PatR := fun _ _ Q => Q (some [])
theorem pp_any : PPt X (.MatchAs none none pos) [] rAny1 :=
  ⟨fun pins s σ H v u Q I r h => wpAny_matchPattern_Capture ⟨I, rfl, [], .nil, h⟩⟩
theorem pps_nil : PPs X [] [] [] :=
  ⟨rfl, fun pins s σ H vs us Q I r hl h => by
    cases r with
    | nil => exact wpAny_matchEach_nil ⟨I, rfl, [], .nil, h⟩
    | cons _ _ => cases hl⟩
theorem pps_cons {p : Pattern} {ps : List Pattern} {ns ms : List Str} {r : PatR} {rs : List PatR} (h1 : PPt X p ns r) (h2 : PPs X ps ms rs) (hp : p.isStar = false := by rfl) : PPs X (p :: ps) (ns ++ ms) (r :: rs) := by
  refine ⟨congrArg Nat.succ h2.len, fun pins s σ H vs us Q I rv hl h => ?_⟩
  cases rv with
  | nil => cases hl
  | @cons x u xs us rx rt =>
    refine wpAny_matchEach_cons (thn (h1.run pins s σ H x u _ I rx h) fun res s1 ⟨I1, z⟩ => ?_) hp
    cases res with
    | none => exact ⟨I1, z⟩
    | some bs =>
      obtain ⟨e1, vs1, r1, q1⟩ := z
      refine thn (h2.run pins s1 σ H xs us _ I1 rt (Nat.succ.inj hl) q1) fun res2 s2 ⟨I2, z2⟩ => ?_
      cases res2 with
      | none => exact ⟨I2, z2⟩
      | some more =>
        obtain ⟨e2, vs2, r2, q2⟩ := z2
        exact ⟨I2, by rw [List.map_append, e1, e2], vs1 ++ vs2, by rw [List.map_append]; exact r1.append r2, q2⟩
def rSeq (K : Frag) (n : Nat) (rs : List PatR) : PatR := fun v H Q => ∃ a xs, v = .ref a ∧ SqT K H a xs ∧ (xs.length ≠ n → Q none) ∧ (xs.length = n → rEach rs xs H Q)
theorem pp_seq {ps : List Pattern} {ns : List Str} {rs : List PatR} {n : Nat} (hc : X.calm = true) (h : PPs X ps ns rs) (hn : ps.length = n := by rfl) (hstar : ps.findIdx? (·.isStar) = none := by rfl)
    (hwild : (ps.all fun p => p.isWildcard || (p.isStar && p.names.isEmpty)) = false := by rfl) : PPt X (.MatchSequence ps pos) ns (rSeq X.K n rs) := by
  refine ⟨fun pins s σ H v u Q I r h' => ?_⟩
  obtain ⟨a, xs, rfl, sq, qn, qy⟩ := h'
  obtain rfl : u = Value.ref a := r
  obtain ⟨its, rv, ht, hz⟩ := I.tuple sq
  have hfit : ((its.toArray.size : Nat) : Int) < 2 ^ 63 := by
    have e := rv.length
    rw [List.size_toArray, ← e]
    rw [sizeLine_eq] at hz
    omega
  have e := rv.length
  by_cases c : xs.length = n
  · refine matchSeq_tuple_hit ht hfit (by rw [List.size_toArray, ← e, c, hn]) ?_ hstar hwild
    have sz : ps.length = its.toArray.size := by rw [List.size_toArray, ← e, c, hn]
    rw [sz]
    refine unpackItems_tuple (I.ok.hd hc) ht fun h2 ex => ?_
    have J : Inv X pins σ H { s with heap := h2, toks := s.toks + 1 + 1 } := I.kept (t' := s.toks + 1 + 1) fun b o z => ext_keeps ex b o z
    refine h.run pins _ σ H xs _ Q J (by simpa using rv) (by rw [c, hn]) (qy c)
  · exact matchSeq_tuple_miss ht hfit (by rw [List.size_toArray, ← e, hn]; exact c) ⟨I.tok _, qn c⟩ hstar hwild
/-- one of some patterns without names -/
def rOr : List PatR → PatR
  | [] => fun _ _ Q => Q none
  | r :: rs => fun v H Q => r v H fun o => match o with
    | some vs => Q (some vs)
    | none => rOr rs v H Q
structure PFirst (X : Cx) (pats : List Pattern) (rs : List PatR) : Prop where
  run : ∀ (pins : List (Addr × Obj)) (s : Shared) (σ : L2.St) (H : Hp) (v : V) (u : Value) (Q : Option (List V) → Prop), Inv X pins σ H s → RelV v u → rOr rs v H Q →
    wpAny (model X.prog X.w) X.A (matchFirst pats X.env u) (fun res s1 => PatE X pins σ H [] Q res s1) X.xe s
theorem pf_nil : PFirst X [] [] := ⟨fun pins s σ H v u Q I r h => wpAny_matchFirst_nil ⟨I, h⟩⟩
theorem pf_cons {p : Pattern} {ps : List Pattern} {r : PatR} {rs : List PatR} (h1 : PPt X p [] r) (h2 : PFirst X ps rs) : PFirst X (p :: ps) (r :: rs) := by
  refine ⟨fun pins s σ H v u Q I rv h => wpAny_matchFirst_cons (thn (h1.run pins s σ H v u _ I rv h) fun res s1 ⟨I1, z⟩ => ?_)⟩
  cases res with
  | none => exact h2.run pins s1 σ H v u Q I1 rv z
  | some bs => exact ⟨I1, z⟩
theorem pp_or {ps : List Pattern} {rs : List PatR} (h : PFirst X ps rs) (hno : namesOfAll (ps.take 1) = [] := by rfl) : PPt X (.MatchOr ps pos) [] (rOr rs) := by
  refine ⟨fun pins s σ H v u Q I r h' => wpAny_matchPattern_Or (thn (h.run pins s σ H v u Q I r h') fun res s1 ⟨I1, z⟩ => ?_)⟩
  cases res with
  | none => exact ⟨I1, z⟩
  | some bs =>
    obtain ⟨e, vs, rv, q⟩ := z
    have e0 : bs = [] := List.map_eq_nil_iff.mp e
    subst e0
    cases rv
    rw [hno]
    exact ⟨I1, rfl, [], .nil, q⟩
/-- names stored in their slots, from the left -/
def setAll : L2.St → List Nat → List V → L2.St
  | σ, i :: is, v :: vs => setAll (σ.set i (some v)) is vs
  | σ, _, _ => σ
def SlotsOk (X : Cx) (ns : List Str) (is : List Nat) : Prop := Paired (fun n i => X.N[i]? = some n ∧ L2.Loc X.env.scope n ∧ (X.fn n = true ∨ X.env.scope.names.lookup n = some .local)) ns is
theorem store_all (hN : X.N.Nodup) {pins : List (Addr × Obj)} {H : Hp} {Q : Unit → Shared → Prop} : ∀ {ns : List Str} {is : List Nat} {bs : List (Str × Value)} {vs : List V} {σ : L2.St} {s : Shared}, SlotsOk X ns is → bs.map (·.1) = ns → Vals vs (bs.map (·.2)) → Inv X pins σ H s →
    (∀ s', Inv X pins (setAll σ is vs) H s' → Q () s') → wpAny (model X.prog X.w) X.A (assignInOrder (bs.map fun (n, _) => bindName X.env n) (bs.map (·.2))) Q X.xe s
  | _, _, [], _, _, _, ok, e, rv, I, q => by
    subst e
    cases rv
    cases ok
    exact wpAny_assignInOrder_none (q _ I)
  | _, _, (n, u) :: bs, _, _, _, ok, e, rv, I, q => by
    subst e
    cases rv with
    | cons r1 r2 =>
      cases ok with
      | cons o1 o2 =>
        refine wpAny_assignInOrder_more (wpAny_bindName (store_ok I hN o1.1 o1.2.1 r1 (fun s' I' => store_all hN o2 rfl r2 I' q) o1.2.2))
def tCases : List (List Nat × PatR × TS) → V → TS
  | [], _ => fun D σ H => D.nx σ H
  | (is, r, t) :: rest, v => fun D σ H => r v H fun o => match o with
    | none => tCases rest v D σ H
    | some vs => t D (setAll σ is vs) H
structure PCs (X : Cx) (cases : List MatchCase) (cs : List (List Nat × PatR × TS)) : Prop where
  run : ∀ (pins : List (Addr × Obj)) (s : Shared) (σ : L2.St) (H : Hp) (D : Ends) (v : V) (u : Value) (first : Bool), Inv X pins σ H s → RelV v u → tCases cs v D σ H →
    wpAny (model X.prog X.w) X.A (matchCases cases X.env u first) (SP X pins D) X.xe s
theorem pcs_nil : PCs X [] [] := ⟨fun pins s σ H D v u first I r h => wpAny_matchCases_nil ⟨σ, H, I, h⟩⟩
theorem pcs_cons {p : Pattern} {body : List Stmt} {cases : List MatchCase} {ns : List Str} {is : List Nat} {r : PatR} {t : TS} {cs : List (List Nat × PatR × TS)} (hN : X.N.Nodup) (h1 : PPt X p ns r) (hs : SlotsOk X ns is) (hb : PSs X body t) (h2 : PCs X cases cs) :
    PCs X (⟨p, none, body⟩ :: cases) ((is, r, t) :: cs) := by
  refine ⟨fun pins s σ H D v u first I rv h => wpAny_matchCases_cons (thn (h1.run pins s σ H v u _ I rv h) fun res s1 ⟨I1, z⟩ => ?_)⟩
  cases res with
  | none => exact h2.run pins s1 σ H D v u false I1 rv z
  | some bs =>
    obtain ⟨e, vs, r2, q⟩ := z
    exact store_all hN hs e r2 I1 fun s2 I2 => hb.run pins s2 _ H D I2 q
def tMatch (te : TE) (cs : List (List Nat × PatR × TS)) : TS := fun D σ H => te σ H fun v H1 => tCases cs v D σ H1
theorem ps_match {e : Expr} {cases : List MatchCase} {te : TE} {cs : List (List Nat × PatR × TS)} (he : PE X e te) (hc : PCs X cases cs) : PS X (.Match e cases pos) (tMatch te cs) :=
  ⟨fun pins s σ H D I h => wpAny_Match (thn (he.run pins s σ H _ I h) fun u s1 ⟨v, H1, I1, rv, q⟩ => hc.run pins s1 σ H1 D v u true I1 rv q)⟩
end
/-! # heaps -/
theorem same_upd {H : Hp} {a : Addr} {o : HO} (h : H a = none) : Same H (upd H a o) := fun b u e => by
  rw [upd_ne (ne_of_none e h)]
  exact e
theorem same_upd2 {H H1 : Hp} {a : Addr} {o : HO} (s : Same H H1) (h : H a = none) : Same H (upd H1 a o) := fun b u e => by
  rw [upd_ne (ne_of_none e h)]
  exact s b u e
theorem take_snoc {α : Type} {l : List α} {i : Nat} {x : α} (h : l[i]? = some x) : l.take (i + 1) = l.take i ++ [x] := by
  rw [List.take_succ, h]
  rfl
theorem if_no {c : Bool} {A B : Prop} (h : c = false) (b : B) : if c = true then A else B := by
  rw [h, if_neg Bool.false_ne_true]
  exact b
theorem if_yes {c : Bool} {A B : Prop} (h : c = true) (a : A) : if c = true then A else B := by
  rw [if_pos h]
  exact a
theorem if_by {c : Bool} {A B : Prop} (a : c = true → A) (b : c = false → B) : if c = true then A else B := by
  cases c with
  | true => exact a rfl
  | false => exact b rfl
abbrev cs (x : Str) : List Nat := x.cps.toList
theorem glob_str {X : Cx} {x : Str} {c : Str} {pos : Pos} (hg : Gl X x) (hm : ∃ t, X.mg x = some (.str c t)) (hd : (x == ("__debug__" : Str)) = false := by decide) : PE X (.Name x pos) (tC (.str c)) := by
  obtain ⟨t, e⟩ := hm
  exact pe_glob hg e ⟨t, rfl⟩ hd
theorem pe_never {X : Cx} {e : Expr} : PE X e (fun _ _ _ => False) := ⟨fun _ _ _ _ _ _ h => h.elim⟩
theorem pt_never {X : Cx} {e : Expr} : PT X e (fun _ _ _ => False) := ⟨fun _ _ _ _ _ _ h => h.elim⟩
theorem sqT_same {K : Frag} {H H' : Hp} {a : Addr} {xs : List V} (s : Same H H') (h : SqT K H a xs) : SqT K H' a xs := by
  rcases h with (h | ⟨o, h⟩) | h
  · exact .inl (.inl (s _ _ h))
  · exact .inl (.inr ⟨o, s _ _ h⟩)
  · exact .inr h
theorem dp_same {K : Frag} {H H' : Hp} (s : Same H H') : ∀ {d : PyData} {v : V}, Dp K H v d → Dp K H' v d := by
  intro d v h
  exact Dp.rec (motive_1 := fun v d _ => Dp K H' v d) (motive_2 := fun vs ds _ => DpAll K H' vs ds) .non .bl .int .str (fun h1 _ ih => .lst (s.seq h1) ih) (fun h1 _ ih => .tup (sqT_same s h1) ih) .nil (fun _ _ a b => .cons a b) h
theorem dpAll_same {K : Frag} {H H' : Hp} (s : Same H H') : ∀ {ds : List PyData} {vs : List V}, DpAll K H vs ds → DpAll K H' vs ds
  | [], _, .nil => .nil
  | _ :: _, _, .cons h t => .cons (dp_same s h) (dpAll_same s t)
theorem dpLen {K : Frag} {H : Hp} : ∀ {vs : List V} {ds : List PyData}, DpAll K H vs ds → vs.length = ds.length
  | _, _, .nil => rfl
  | _, _, .cons _ t => congrArg Nat.succ (dpLen t)
theorem dpAt {K : Frag} {H : Hp} : ∀ {vs : List V} {ds : List PyData} {i : Nat} {d : PyData}, DpAll K H vs ds → ds[i]? = some d → ∃ v, vs[i]? = some v ∧ Dp K H v d
  | _, _, _, _, .nil, e => by cases e
  | _, _, 0, _, .cons h _, e => by
    obtain rfl := Option.some.inj e
    exact ⟨_, rfl, h⟩
  | _, _, i + 1, _, .cons _ t, e => dpAt (i := i) t e
theorem dpAt' {K : Frag} {H : Hp} : ∀ {vs : List V} {ds : List PyData} {i : Nat} {v : V}, DpAll K H vs ds → vs[i]? = some v → ∃ d, ds[i]? = some d ∧ Dp K H v d
  | _, _, _, _, .nil, e => by cases e
  | _, _, 0, _, .cons h _, e => by
    obtain rfl := Option.some.inj e
    exact ⟨_, rfl, h⟩
  | _, _, i + 1, _, .cons _ t, e => dpAt' (i := i) t e
theorem dpApp {K : Frag} {H : Hp} : ∀ {vs ws : List V} {ds es : List PyData}, DpAll K H vs ds → DpAll K H ws es → DpAll K H (vs ++ ws) (ds ++ es)
  | _, _, _, _, .nil, h => h
  | _, _, _, _, .cons h t, h' => .cons h (dpApp t h')
theorem dpDrop {K : Frag} {H : Hp} : ∀ (n : Nat) {vs : List V} {ds : List PyData}, DpAll K H vs ds → DpAll K H (vs.drop n) (ds.drop n)
  | 0, _, _, h => h
  | n + 1, _, _, .nil => .nil
  | n + 1, _, _, .cons _ t => dpDrop n t
theorem dpTake {K : Frag} {H : Hp} : ∀ (n : Nat) {vs : List V} {ds : List PyData}, DpAll K H vs ds → DpAll K H (vs.take n) (ds.take n)
  | 0, _, _, _ => .nil
  | n + 1, _, _, .nil => .nil
  | n + 1, _, _, .cons h t => .cons h (dpTake n t)
theorem dp_tup {K : Frag} {H : Hp} {v : V} {ds : List PyData} (h : Dp K H v (.tuple ds)) : ∃ a xs, v = .ref a ∧ SqT K H a xs ∧ DpAll K H xs ds := by
  cases h with
  | tup h1 h2 => exact ⟨_, _, rfl, h1, h2⟩
theorem dp_lst {K : Frag} {H : Hp} {v : V} {ds : List PyData} (h : Dp K H v (.list ds)) : ∃ a xs, v = .ref a ∧ SqL K H a xs ∧ DpAll K H xs ds := by
  cases h with
  | lst h1 h2 => exact ⟨_, _, rfl, h1, h2⟩
theorem dp_str {K : Frag} {H : Hp} {v : V} {x : Str} (h : Dp K H v (.str x)) : v = .str x := by
  cases h
  rfl
theorem dp_two {K : Frag} {H : Hp} {v : V} {x y : Str} (h : Dp K H v (.tuple [.str x, .str y])) : ∃ a, v = .ref a ∧ SqT K H a [.str x, .str y] := by
  obtain ⟨a, xs, rfl, q, all⟩ := dp_tup h
  cases all with
  | cons h1 t =>
    cases t with
    | cons h2 t =>
      cases t
      obtain rfl := dp_str h1
      obtain rfl := dp_str h2
      exact ⟨a, rfl, q⟩
/-! # a def's place and promise -/
def Has (P : Program) (w : World) (K : Frag) (mg : Str → Option Value) (base : Heap) (k : Nat) (x : Str) (ps : List Str) (sp : Sp) : Prop :=
  ∃ (f : Addr) (fd : FuncData), mg x = some (.ref f) ∧ PySem.W.keepIn K (.ref f) = true ∧ Binds K fd ps [] ∧ FnOk P w K mg base CX0 k f fd ps sp
/-- the same, its one argument told by its name -/
def HasK (P : Program) (w : World) (K : Frag) (mg : Str → Option Value) (base : Heap) (k : Nat) (x : Str) (ps : List Str) (sp : Sp) : Prop :=
  ∃ (f : Addr) (fd : FuncData), mg x = some (.ref f) ∧ PySem.W.keepIn K (.ref f) = true ∧ Binds K fd ps [] ∧ KBinds K fd ps ps (fun us ws => us ++ ws) (fun vs zs => vs ++ zs) ∧ FnOk P w K mg base CX0 k f fd ps sp
theorem HasK.has {P : Program} {w : World} {K : Frag} {mg : Str → Option Value} {base : Heap} {k : Nat} {x : Str} {ps : List Str} {sp : Sp} (h : HasK P w K mg base k x ps sp) : Has P w K mg base k x ps sp := by
  obtain ⟨f, fd, a, b, c, _, d⟩ := h
  exact ⟨f, fd, a, b, c, d⟩
theorem has_of {P : Program} {w : World} {K : Frag} {mg : Str → Option Value} {base : Heap} {k : Nat} {x qual : Str} {st : Stmt} {f : Addr} {fd : FuncData} {ps : List Str} {sp : Sp} (F : Fun K x qual st f fd) (g : mg x = some (.ref f)) (b : Binds K fd ps []) (o : FnOk P w K mg base CX0 k f fd ps sp) : Has P w K mg base k x ps sp := ⟨f, fd, g, F.kp, b, o⟩
theorem hasK_of {P : Program} {w : World} {K : Frag} {mg : Str → Option Value} {base : Heap} {k : Nat} {x qual : Str} {st : Stmt} {f : Addr} {fd : FuncData} {ps : List Str} {sp : Sp} (F : Fun K x qual st f fd) (g : mg x = some (.ref f)) (b : Binds K fd ps []) (c : KBinds K fd ps ps (fun us ws => us ++ ws) (fun vs zs => vs ++ zs)) (o : FnOk P w K mg base CX0 k f fd ps sp) : HasK P w K mg base k x ps sp := ⟨f, fd, g, F.kp, b, c, o⟩
section
variable {X : Cx} {CX : CXT} {k : Nat} {f : Addr} {fd : FuncData} {ps ks : List Str} {sp : Sp} {x : Str} {p pos : Pos} {E : XK} {kws : List Keyword} {tk : TA} {g : List Value → List Value → List Value} {gV : List V → List V → List V}
def tCallKw (sp : Sp) (gV : List V → List V → List V) (E : XK) (tk : TA) : TE := fun σ H Q => tk σ H fun zs H2 => sp (gV [] zs) H2 Q E
theorem pe_callKw (F : FnOk X.prog X.w X.K X.mg X.base CX k f fd ps sp) (hr : Room k X.A) (hg : Gl X x) (hm : X.mg x = some (.ref f)) (hk : PySem.W.keepIn X.K (.ref f) = true) (hb : KBinds X.K fd ps ks g gV) (hx : Passes CX X E)
    (hkw : PK X kws tk) (hall : (backToKw pos (keywordEach kws X.env)).all (·.1.isSome) = true := by rfl) (hks : (backToKw pos (keywordEach kws X.env)).filterMap (·.1) = ks := by rfl)
    (hdb : (x == ("__debug__" : Str)) = false := by decide)
    (hpl : ((backTo pos (starEach [] X.env)).any (·.1) || (backToKw pos (keywordEach kws X.env)).any (·.1.isNone)) = false := by rfl) :
    PE X (.Call (.Name x p) [] kws pos) (tCallKw sp gV E tk) := by
  refine ⟨fun pins s σ H Q I h => ?_⟩
  refine wpAny_Call_Name_kw (ld_glob I hg hm ?_ hdb)
  refine PySem.W.callWith_KW0 (h₀ := X.base) I.ok.mod.kin hk hall (thn (hkw.run pos pins s σ H _ I h) fun ws s2 ⟨zs, H2, I2, rz, q2⟩ => ⟨I2.kIn, ?_⟩) hpl
  rw [hks]
  exact run_fnk F hr hb hx I2 .nil rz q2
end
theorem len_cs (x : Str) : x.length = (cs x).length := by
  show x.cps.size = _
  simp
theorem ixN_of {n j : Nat} (h : j < n) : ixN n (j : Int) = some j := by
  unfold ixN
  rw [if_pos (by omega), if_pos (by omega)]
  simp
theorem fm0 {m : Int} (h : 0 < m) (a : Int) : 0 ≤ a.fmod m := by
  rw [Int.fmod_eq_emod_of_nonneg _ (by omega)]
  exact Int.emod_nonneg _ (by omega)
theorem fm1 {m : Int} (h : 0 < m) (a : Int) : a.fmod m < m := by
  rw [Int.fmod_eq_emod_of_nonneg _ (by omega)]
  exact Int.emod_lt_of_pos _ h
/-- a while's word over a natural number -/
theorem while_n {c : TT} {tb : TS} {D : Ends} {σ : L2.St} {H : Hp} (Pv : Nat → L2.St → Hp → Prop) (m : Nat) (h0 : Pv m σ H)
    (hs : ∀ m σ H, Pv m σ H → c σ H fun b H1 => if b = true then ∃ N : L2.St → Hp → Prop, (∀ σ' H', N σ' H' → ∃ m', m' < m ∧ Pv m' σ' H') ∧ tb { D with nx := N, ct := N, bk := D.nx } σ H1 else D.nx σ H1) : tWhile c tb D σ H :=
  ⟨Pv, ⟨m, h0⟩, hs⟩
/-! # cases -/
def tNoE : TE := fun _ _ _ => False
theorem pe_no {X : Cx} {e : Expr} : PE X e tNoE := ⟨fun _ _ _ _ _ _ h => h.elim⟩
/-- True, False as a pattern -/
def rBool (c : Bool) : PatR := fun v _ Q => ∃ b, v = .bl b ∧ Q (if b = c then some [] else none)
theorem pp_bool {X : Cx} {pos : Pos} {c : Bool} : PPt X (.MatchSingleton (.bool c) pos) [] (rBool c) := by
  refine ⟨fun pins s σ H v u Q I r h => ?_⟩
  obtain ⟨b, rfl, q⟩ := h
  obtain rfl : u = Value.bool b := r
  refine wpAny_matchPattern_Singleton_bool ?_
  cases b <;> cases c
  · exact ⟨I, rfl, [], .nil, q⟩
  · exact ⟨I, q⟩
  · exact ⟨I, q⟩
  · exact ⟨I, rfl, [], .nil, q⟩
theorem either_bool {b : Bool} {H : Hp} {Q : Option (List V) → Prop} (h : Q (some [])) : rOr [rBool true, rBool false] (.bl b) H Q := by
  cases b
  · exact ⟨false, rfl, ⟨false, rfl, h⟩⟩
  · exact ⟨true, rfl, h⟩
def rNo : PatR := fun _ _ _ => False
theorem pcs_never {X : Cx} {cases : List MatchCase} : PCs X cases [([], rNo, fun _ _ _ => False)] := ⟨fun _ _ _ _ _ _ _ _ _ _ h => h.elim⟩
def Hit (r : PatR) (y : Str) : Prop := ∀ H Q, Q (some []) → r (.str y) H Q
def Miss (r : PatR) (y : Str) : Prop := ∀ H Q, Q none → r (.str y) H Q
theorem hit_lit {c : Str} : Hit (rLit c) c := fun H Q h => ⟨c, rfl, by rw [if_pos rfl]; exact h⟩
theorem miss_lit {c y : Str} (ne : y ≠ c) : Miss (rLit c) y := fun H Q h => ⟨y, rfl, by rw [if_neg ne]; exact h⟩
theorem hit_or {r : PatR} {rs : List PatR} {y : Str} (h : Hit r y) : Hit (rOr (r :: rs)) y := fun H Q q => h H _ q
theorem hit_or2 {r : PatR} {rs : List PatR} {y : Str} (m : Miss r y) (h : Hit (rOr rs) y) : Hit (rOr (r :: rs)) y := fun H Q q => m H _ (h H Q q)
theorem miss_or {r : PatR} {rs : List PatR} {y : Str} (m : Miss r y) (h : Miss (rOr rs) y) : Miss (rOr (r :: rs)) y := fun H Q q => m H _ (h H Q q)
theorem miss_or0 {y : Str} : Miss (rOr []) y := fun H Q q => q
theorem each_caps {H : Hp} : ∀ {ys : List V} {Q : Option (List V) → Prop}, Q (some ys) → rEach (List.replicate ys.length rCap) ys H Q
  | [], _, h => h
  | y :: ys, Q, h => by
    show rEach (List.replicate ys.length rCap) ys H _
    exact each_caps (ys := ys) (Q := fun o' => match o' with | none => Q none | some more => Q (some ([y] ++ more))) h
theorem case_hit {K : Frag} {n : Nat} {r : PatR} {rs : List PatR} {is : List Nat} {t : TS} {rest : List (List Nat × PatR × TS)} {a : Addr} {c : Str} {ys : List V} {D : Ends} {σ : L2.St} {H : Hp} (hq : SqT K H a (.str c :: ys)) (hh : Hit r c) (h : t D (setAll σ is ys) H)
    (hr : rs = List.replicate ys.length rCap := by rfl) (hn : n = ys.length + 1 := by rfl) : tCases ((is, rSeq K n (r :: rs), t) :: rest) (.ref a) D σ H := by
  subst hr
  subst hn
  refine ⟨a, _, rfl, hq, fun ne => absurd rfl ne, fun _ => ?_⟩
  refine hh H _ ?_
  exact each_caps (Q := fun o' => match o' with | none => tCases rest (.ref a) D σ H | some more => t D (setAll σ is ([] ++ more)) H) h
theorem case_miss {K : Frag} {n : Nat} {r : PatR} {rs : List PatR} {is : List Nat} {t : TS} {rest : List (List Nat × PatR × TS)} {a : Addr} {c : Str} {ys : List V} {D : Ends} {σ : L2.St} {H : Hp} (hq : SqT K H a (.str c :: ys)) (hh : Miss r c ∨ ys.length + 1 ≠ n) (h : tCases rest (.ref a) D σ H) :
    tCases ((is, rSeq K n (r :: rs), t) :: rest) (.ref a) D σ H := by
  rcases hh with hh | ne
  · exact ⟨a, _, rfl, hq, fun _ => h, fun _ => hh H _ h⟩
  · exact ⟨a, _, rfl, hq, fun _ => h, fun e => absurd e ne⟩
theorem ml {c y : Str} {n m : Nat} (ne : y ≠ c := by decide +kernel) : Miss (rLit c) y ∨ n ≠ m := .inl (miss_lit ne)
/-- what a piece's tuple holds -/
theorem pc_two {K : Frag} {H : Hp} {v : V} {k : Str} {d : PyData} (h : Dp K H v (.tuple [.str k, d])) : ∃ a x, v = .ref a ∧ SqT K H a [.str k, x] ∧ Dp K H x d := by
  obtain ⟨a, xs, rfl, hq, all⟩ := dp_tup h
  cases all with
  | cons h1 t1 =>
    obtain rfl := dp_str h1
    cases t1 with
    | cons h2 t2 =>
      cases t2
      exact ⟨a, _, rfl, hq, h2⟩
theorem pc_three {K : Frag} {H : Hp} {v : V} {k : Str} {d e : PyData} (h : Dp K H v (.tuple [.str k, d, e])) : ∃ a x y, v = .ref a ∧ SqT K H a [.str k, x, y] ∧ Dp K H x d ∧ Dp K H y e := by
  obtain ⟨a, xs, rfl, hq, all⟩ := dp_tup h
  cases all with
  | cons h1 t1 =>
    obtain rfl := dp_str h1
    cases t1 with
    | cons h2 t2 =>
      cases t2 with
      | cons h3 t3 =>
        cases t3
        exact ⟨a, _, _, rfl, hq, h2, h3⟩
/-- data that can be laid, no deeper than n -/
def Sh (n : Nat) (d : PyData) : Prop := d.canLay0 = true ∧ d.depth ≤ n
theorem sh_all {n : Nat} : ∀ {ds : List PyData}, (∀ d ∈ ds, Sh n d) → PyData.canLayAll0 ds = true ∧ PyData.depthAll ds ≤ n
  | [], _ => ⟨PyData.canLayAll0.eq_1, by rw [PyData.depthAll.eq_1]; exact Nat.zero_le _⟩
  | d :: ds, h => by
    have h1 := h d (.head _)
    have h2 := sh_all (n := n) (ds := ds) fun e m => h e (.tail _ m)
    exact ⟨by rw [PyData.canLayAll0.eq_2, h1.1, h2.1]; rfl, by rw [PyData.depthAll.eq_2]; exact Nat.max_le.mpr ⟨h1.2, h2.2⟩⟩
theorem sh_lst {n : Nat} {ds : List PyData} (h : ∀ d ∈ ds, Sh n d) : Sh (n + 1) (.list ds) := by
  have z := sh_all h
  exact ⟨by rw [PyData.canLay0.eq_5]; exact z.1, by rw [PyData.depth.eq_1]; omega⟩
theorem sh_tup {n : Nat} {ds : List PyData} (h : ∀ d ∈ ds, Sh n d) : Sh (n + 1) (.tuple ds) := by
  have z := sh_all h
  exact ⟨by rw [PyData.canLay0.eq_6]; exact z.1, by rw [PyData.depth.eq_2]; omega⟩
theorem sh_str {x : Str} (h : PyData.strOk x = true) : Sh 0 (.str x) := ⟨by rw [PyData.canLay0.eq_4]; exact h, Nat.le_of_eq rfl⟩
theorem sh_mono {n m : Nat} {d : PyData} (h : Sh n d) (l : n ≤ m) : Sh m d := ⟨h.1, Nat.le_trans h.2 l⟩
theorem sh_ok {n : Nat} {d : PyData} (h : Sh n d) (l : n ≤ 64 := by decide) : SeqAt.shaped d = true := by
  unfold SeqAt.shaped
  rw [h.1, decide_eq_true (Nat.le_trans h.2 l)]
  rfl
theorem eqv_nil (ds : List PyData) : PyData.eqv (.list ds) (.list []) = ds.isEmpty := by
  cases ds <;> rfl
/-- all of the answers of a walk -/
theorem lc_all {K : Frag} {a D : Addr} {xs : List V} {bs : List Bool} {H : Hp} {σ : L2.St} {vs : List Nat} {g : TG} {te : TE} {Qd : Hp → Prop} (hq : SqL K H a xs) (hD : H D = none) (hb : bs.length = xs.length) (hl : xs.length ≤ 1000)
    (turn : ∀ (i : Nat) (x : V) (b : Bool) (H' : Hp) (Q : VK), xs[i]? = some x → bs[i]? = some b → Same H H' → (∀ H4, Same H' H4 → Q (.bl b) H4) → g x (wipe σ vs) H' fun σ2 H2 => wipe σ2 vs = wipe σ vs ∧ te σ2 H2 Q)
    (hd : ∀ H', Same H H' → SqL K H' D (bs.map V.bl) → Qd H') :
    ∃ W : Nat → Nat → Hp → Prop, (∃ m, W 0 m (L2.upd H D (.lst []))) ∧ ∀ i m H, W i m H →
      ((Itl K a).stop i H ∧ Qd H) ∨ ((Itl K a).go i H ∧ ∃ Nx : Hp → Prop, (∀ H', Nx H' → ∃ m', m' < m ∧ W (i + 1) m' H') ∧ ∀ x H', (Itl K a).yld i H x H' → g x (wipe σ vs) H' fun σ2 H2 => wipe σ2 vs = wipe σ vs ∧ tYes σ2 H2 fun b H3 =>
        if b = true then te σ2 H3 fun y H4 => ∃ acc, H4 D = some (.lst acc) ∧ acc.length < sizeLine ∧ Nx (L2.upd H4 D (.lst (acc ++ [y]))) else Nx H3) := by
  refine lc_it (walk_list (xs := xs)) (fun i H' => Same H H' ∧ H' D = some (.lst ((bs.take i).map V.bl))) ⟨same_upd hD, upd_same⟩ (fun i H' _ e => e.1.seq hq) (fun i x H' H2 hi e y => ?_) (fun H' e => ?_)
  · obtain ⟨rfl, hx⟩ := y
    obtain ⟨s1, h1⟩ := e
    obtain ⟨b, hbi⟩ : ∃ b, bs[i]? = some b := ⟨_, List.getElem?_eq_getElem (by omega)⟩
    refine turn i x b H2 _ hx hbi s1 fun H4 s4 => ⟨_, s4 _ _ h1, ?_, same_upd2 (s1.trans s4) hD, ?_⟩
    · rw [List.length_map, List.length_take, sizeLine_eq]
      omega
    · rw [upd_same, take_snoc hbi, List.map_append]
      rfl
  · obtain ⟨s1, h1⟩ := e
    rw [← hb, List.take_length] at h1
    exact hd H' s1 (SqL.of h1)
def hide (H : Hp) (W : Addr) : Hp := fun b => if b = W then none else H b
theorem hide_same {H : Hp} {W : Addr} : Same (hide H W) H := fun b o h => by
  unfold hide at h
  by_cases e : b = W
  · rw [if_pos e] at h; cases h
  · rw [if_neg e] at h; exact h
theorem hide_upd {H : Hp} {W : Addr} {o : HO} : Same (hide H W) (hide (L2.upd H W o) W) := fun b u h => by
  unfold hide at h ⊢
  by_cases e : b = W
  · rw [if_pos e] at h; cases h
  · rw [if_neg e] at h ⊢
    rw [upd_ne e]
    exact h
theorem hide_ne {H : Hp} {W b : Addr} {o : HO} (h : H b = some o) (ne : b ≠ W) : hide H W b = some o := by
  unfold hide
  rw [if_neg ne]
  exact h
theorem hide_mono {H H' : Hp} {W : Addr} (s : Same H H') : Same (hide H W) (hide H' W) := fun b u h => by
  unfold hide at h ⊢
  by_cases e : b = W
  · rw [if_pos e] at h; cases h
  · rw [if_neg e] at h ⊢
    exact s b u h
/-- what was there before W came -/
theorem hide_of {H H' : Hp} {W : Addr} (s : Same H H') (h : H W = none) : Same H (hide H' W) := fun b u e => by
  unfold hide
  rw [if_neg (ne_of_none e h)]
  exact s b u e
end Qb
end PySem
namespace PySem
namespace Qb
open PySem.W PySem.Calls PyProof.Rows L2
/-! # errors that are caught and kept -/
/-- the error that was caught, at a: its class and its dict -/
def ErO (cls : Value) (d : Option Addr) (a : Addr) : HO := .ext fun h => ∃ (oe : Obj) (vs : Array Value), h.get? a = some oe ∧ Zc cls d oe ∧ oe.data = .fields vs
theorem erO_ok {P : Program} {w : World} {H : Hp} {h : Heap} {a : Addr} {cls : Value} {d : Option Addr} {oe : Obj} {vs : Array Value} (e : h.get? a = some oe) (z : Zc cls d oe) (f : oe.data = .fields vs) : ObjOk P w H h a (ErO cls d a) :=
  ⟨⟨oe, vs, e, z, f⟩, ⟨_, e⟩, fun h1 h2 ⟨o1, v1, e1, z1, f1⟩ k => ⟨o1, v1, k _ e1, z1, f1⟩⟩
section
variable {X : Cx} {pins : List (Addr × Obj)} {σ : L2.St} {H : Hp} {s : Shared}
/-- a thing that is there and was not spoken of is spoken of from here on -/
theorem inv_track {a : Addr} {o : HO} {oe : Obj} {vs : Array Value} (I : Inv X pins σ H s) (na : H a = none) (ha : s.heap.get? a = some oe) (hd : oe.data = .fields vs) (nL : a ≠ X.env.locals)
    (n0 : ∀ ob, X.s_0.heap.get? a ≠ some ob) (np : ∀ p ∈ X.pn ++ pins, p.1 ≠ a) (new : ObjOk X.prog X.w (L2.upd H a o) s.heap a o) : Inv X pins σ (L2.upd H a o) s where
  ok := I.ok
  os := I.os
  bare := I.bare
  base := {
    keep := I.base.keep
    slot := I.base.slot
    free := fun b ob e n hx => by
      rw [upd_ne (fun z : b = a => n0 ob (z ▸ e))]
      exact I.base.free b ob e n hx
    there := I.base.there
    tups := fun b xs e => by
      have q := I.base.tups b xs e
      rw [upd_ne (ne_of_none q na)]
      exact q
    frzs := fun b ob u e => by
      have q := I.base.frzs b ob u e
      rw [upd_ne (ne_of_none q na)]
      exact q
    tbls := fun b ps e => by
      obtain ⟨more, q⟩ := I.base.tbls b ps e
      exact ⟨more, by rw [upd_ne (ne_of_none q na)]; exact q⟩ }
  loc := I.loc
  cell := I.cell
  free := by
    rw [upd_ne (Ne.symm nL)]
    exact I.free
  freeC := fun x c e => by
    rw [upd_ne (fun z : c = a => by
      obtain ⟨v, ob, h1, h2⟩ := I.cell x c e
      rw [z, ha] at h1
      cases h1
      rw [hd] at h2
      cases h2)]
    exact I.freeC x c e
  pin := fun p hp => by
    obtain ⟨e, n, r⟩ := I.pin p hp
    exact ⟨e, by rw [upd_ne (np p hp)]; exact n, r⟩
  hok := fun b u e => by
    by_cases hb : b = a
    · subst hb
      rw [upd_same] at e
      cases e
      exact new
    · rw [upd_ne hb] at e
      refine (I.hok b u e).stay (fun c v _ q => q) (fun c q => ?_) (fun c xs q => ?_)
      · rw [upd_ne (ne_of_none q na)]
        exact q
      · rw [upd_ne (ne_of_none q na)]
        exact q
  len := I.len
theorem inv_into (a : Addr) (I : Inv X pins σ H s) : Inv (X.suite a (X.pn ++ pins)) [] σ H s where
  ok := I.ok.suite a _
  os := I.os
  bare := I.bare
  base := I.base
  loc := I.loc
  cell := I.cell
  free := I.free
  freeC := I.freeC
  pin := fun p hp => I.pin p (by rw [List.append_nil] at hp; exact hp)
  hok := I.hok
  len := I.len
theorem inv_outof {a : Addr} {qs : List (Addr × Obj)} (good : X.Ok) (I : Inv (X.suite a (X.pn ++ pins)) qs σ H s) : Inv X pins σ H s where
  ok := good
  os := I.os
  bare := I.bare
  base := I.base
  loc := I.loc
  cell := I.cell
  free := I.free
  freeC := I.freeC
  pin := fun p hp => I.pin p (List.mem_append_left _ hp)
  hok := I.hok
  len := I.len
end
/-- what 'except x as n' wishes, where it takes all that comes: slot i is n's, the error stands in the heap from here on -/
def wKeep (K : Frag) (c : Value) (i : Nat) (ts : Addr → Value → Option Addr → TS) (D : Ends) : WX := fun cls d σ H =>
  exmOne K cls c = some true ∧ ∀ a, H a = none → ts a cls d { nx := fun σ' H' => D.nx (σ'.set i none) H', rt := D.rt, bk := fun σ' H' => D.bk (σ'.set i none) H', ct := fun σ' H' => D.ct (σ'.set i none) H' } (σ.set i (some (.ref a))) (L2.upd H a (ErO cls d a))
section
variable {X : Cx} {x n : Str} {c : Value} {i : Nat} {body more : List Stmt} {b0 : Stmt} {p1 p2 p3 : Pos} {tb : WX → TS} {ts : Addr → Value → Option Addr → TS}
theorem ps_try_keep (stk : X.stack = X.env :: X.outer) (frm : X.env.frame = some X.env.locals) (noex : X.ex = []) (nd : X.N.Nodup) (hi : X.N[i]? = some n) (loc : X.env.kindOf n = some .local) (nm : Names X x c)
    (hb : ∀ (W : WX) (pn : List (Addr × Obj)) (xe : Value → Shared → Prop), Takes (X.tr pn xe) W → PassesOwn (model X.prog X.w) X.A X.env xe → PSs (X.tr pn xe) body (tb W))
    (hsu : ∀ (a : Addr) (cls : Value) (d : Option Addr) (pn : List (Addr × Obj)), PSs (X.suite a pn) (b0 :: more) (ts a cls d)) :
    PS X (.Try body [.ExceptHandler (some (.Name x p1)) (some n) (b0 :: more) p2] [] [] p3) (fun D σ H => tb (wKeep X.K c i ts D) D σ H) := by
  refine ⟨fun pins s σ H D I h => ?_⟩
  have good := I.ok
  have allF : X.A.frames = some (X.env :: X.outer) := good.frames.trans (congrArg some stk)
  have lo : L2.Loc X.env.scope n := .inl loc
  have caught : ∀ (u : Value) (z : Shared), XE (X.tr (X.pn ++ pins) fun e z0 => wpAny (model X.prog X.w) X.A (noteFrame e X.env) (fun _ z1 => wpAny (model X.prog X.w) X.A (setFlight e none) (fun _ z2 =>
      wpAny (model X.prog X.w) X.A (handleBy e X.env [.ExceptHandler (some (.Name x p1)) (some n) (b0 :: more) p2]) (SP X pins D) X.xe z2) X.xe z1) X.xe z0) (wKeep X.K c i ts D) u z →
      wpAny (model X.prog X.w) X.A (noteFrame u X.env) (fun _ z1 => wpAny (model X.prog X.w) X.A (setFlight u none) (fun _ z2 =>
      wpAny (model X.prog X.w) X.A (handleBy u X.env [.ExceptHandler (some (.Name x p1)) (some n) (b0 :: more) p2]) (SP X pins D) X.xe z2) X.xe z1) X.xe z := by
    rintro u z ⟨e, B, sI, qs, σ1, H1, cls, d, rfl, J0, inB, ups, air, ne, sameOs, gens, ofC, wish⟩
    have J : Inv X pins σ1 H1 sI := J0.ofTry good
    have air2 : Sky B (X.env :: X.outer) e (Zc cls d) X.env.locals z.heap := stk ▸ air
    refine Sky.land Zc.steady allF frm air2 fun h1 fly ups1 => ?_
    obtain ⟨oe1, vs1, get1, zc1, dat1⟩ := fly.there
    have notF : e ∉ frs (X.env :: X.outer) := fun hm => by
      obtain ⟨_, ob, eo, nofl⟩ := fly.2.2.1.mem hm
      rw [get1] at eo
      cases eo
      exact nofl _ dat1
    have notL : e ≠ X.env.locals := fun q => notF (List.mem_filterMap.mpr ⟨X.env, List.mem_cons_self, by rw [frm, q]⟩)
    have noI : sI.heap.get? e = none := by
      cases q : sI.heap.get? e with
      | none => rfl
      | some ob =>
        have q2 := inB e ob q (by show e ∉ frs X.stack; rw [stk]; exact notF)
        rw [fly.2.1] at q2
        cases q2
    have no0 : ∀ ob, X.s_0.heap.get? e ≠ some ob := fun ob q => by
      obtain ⟨ob2, q2⟩ := J.base.there e ob q (by rw [noex]; exact fun y => nomatch y)
      rw [noI] at q2
      cases q2
    have noP : ∀ p ∈ X.pn ++ pins, p.1 ≠ e := fun p hp q => by
      have q2 := (J.pin p hp).1
      rw [q, noI] at q2
      cases q2
    have S1 : Inv (X.suite e (X.pn ++ pins)) [] σ1 H1 { z with heap := h1 } := inv_into e (J.landed inB fly.1 (ups.trans ups1) sameOs gens)
    refine wpAny_handleBy_cons (codeAny_handlers_test ?_) (by intro q; cases q)
    have LT : Looks (model X.prog X.w) h1 (typeOf (.ref e)) cls := fun A Q E s k q => wpAny_typeOf_ref (k _ _ get1) (by rw [zc1.1]; exact q)
    have LM := exm_one (M := model X.prog X.w) S1.kIn LT ofC
    have named : ∀ {Q : Value → Shared → Prop} {E : Value → Shared → Prop}, Q c { z with heap := h1 } → wpAny (model X.prog X.w) (X.A.mark (some (.ref e))) (eval (.Name x p1) X.env) Q E { z with heap := h1 } := fun {Q E} q => by
      obtain ⟨hg, hdbg, hm | ⟨hm, hv, hnn⟩⟩ := nm
      · exact ld_glob (X := X.suite e (X.pn ++ pins)) S1 hg hm q hdbg
      · exact ld_blt (X := X.suite e (X.pn ++ pins)) S1 hg hm hv q hnn hdbg
    refine named (LM.here ?_)
    refine codeAny_handlers_suite_as ?_
    refine HandSPX.lands_againZ fly fun h2 fly2 ups2 => ?_
    have J2 : Inv X pins σ1 H1 { z with heap := h2 } := J.landed inB fly2.1 ((ups.trans ups1).trans ups2) sameOs gens
    obtain ⟨oe2, vs2, get2, zc2, dat2⟩ := fly2.there
    have S2 := inv_into e (inv_track (o := ErO cls d e) J2 ne get2 dat2 notL no0 noP (erO_ok get2 zc2 dat2))
    refine store_ok (X := X.suite e (X.pn ++ pins)) (v := .ref e) S2 nd hi lo rfl (fun s3 S3 => ?_) (.inr loc)
    refine wpAny_mono ((hsu e cls d (X.pn ++ pins)).run [] s3 _ _ _ S3 (wish e ne)) (fun fl s4 end4 => ?_) (fun _ _ y => y.elim)
    have bye : ∀ {σ4 : L2.St} {H4 : Hp} {Q : Shared → Prop}, Inv (X.suite e (X.pn ++ pins)) [] σ4 H4 s4 → (∀ s5, Inv X pins (σ4.set i none) H4 s5 → Q s5) →
        wpAny (model X.prog X.w) X.A (do bindName X.env n .none; unbindBehindTheSuite X.env n p2) (fun _ s5 => Q s5) X.xe s4 := fun {σ4 H4 Q} S4 q => gone_ok (inv_outof good S4) nd hi loc q
    cases fl with
    | next =>
      obtain ⟨σ4, H4, S4, q4⟩ := end4
      exact bye S4 fun s5 J5 => ⟨_, _, J5, q4⟩
    | brk =>
      obtain ⟨σ4, H4, S4, q4⟩ := end4
      exact bye S4 fun s5 J5 => ⟨_, _, J5, q4⟩
    | cont =>
      obtain ⟨σ4, H4, S4, q4⟩ := end4
      exact bye S4 fun s5 J5 => ⟨_, _, J5, q4⟩
    | ret u =>
      obtain ⟨v4, σ4, H4, S4, r4, q4⟩ := end4
      exact bye S4 fun s5 J5 => ⟨_, _, _, J5, r4, q4⟩
  refine wpAny_Try_except (wpAny_mono ((hb (wKeep X.K c i ts D) (X.pn ++ pins) _ caught PassesOwn.looking).run [] s σ H D (I.toTry _) h) (fun fl s1 end1 => ?_) fun _ _ y => y)
  cases fl with
  | next =>
    obtain ⟨σ1, H1, J1, q⟩ := end1
    exact wpAny_execs_nil ⟨σ1, H1, J1.ofTry good, q⟩
  | brk =>
    obtain ⟨σ1, H1, J1, q⟩ := end1
    exact ⟨σ1, H1, J1.ofTry good, q⟩
  | cont =>
    obtain ⟨σ1, H1, J1, q⟩ := end1
    exact ⟨σ1, H1, J1.ofTry good, q⟩
  | ret u =>
    obtain ⟨v, σ1, H1, J1, r, q⟩ := end1
    exact ⟨v, σ1, H1, J1.ofTry good, r, q⟩
end
/-! # the classes of errors -/
/-- what the written part says of one class of errors: its name x, its object at C, behind itself ms in the order of lookup; fI: the one __init__ -/
structure EC (K : Frag) (mg : Str → Option Value) (fI : Addr) (x : Str) (C : Addr) (ms : List Value) : Prop where
  gC : mg x = some (.ref C)
  cls : ∃ nm q N bs sn sub ab col dd k0 k1 k2 k3 k5,
    K.lookup C = some (excClassObj nm q C N bs ms true sn sub ab col dd k0 k1 k2 k3 k5 "ValueError.__new__")
  rv : HandSPX.refsVE ms = true
  sa : findIn K (.ref C) "__setattr__" = some (some (.builtin "object.__setattr__"))
  ga : findIn K (.ref C) "__getattribute__" = some (some (.builtin "BaseException.__getattribute__"))
  gg : findIn K (.ref C) "__getattr__" = some none
  no : findIn K (.ref C) "value" = some none
  iC : findIn K (.ref C) "__init__" = some (some (.ref fI))
  kC : keepIn K (.ref C) = true
  cc : findIn K (.ref C) "__class__" = some (some (.builtin "object.__class__"))
structure EG (K : Frag) (fI : Addr) : Prop where
  tI : typeIn K (.ref fI) = some (.type "function")
  hn : specialIn K (.builtin "object.__class__") "__get__" = some (some (.builtin "getset_descriptor.__get__"))
  ht : takesIn K (.builtin "object.__class__") = some true
theorem ec_mk {K : Frag} {mg : Str → Option Value} {h : Heap} {fI C N : Addr} {x nm q : Str} {ms bs : List Value} {sn : List Str} {sub : List Value} {ab : Bool} {col : Option Bool} {dd : Option Addr} {k0 k1 k2 k3 k5 : Option Value}
    (X : K.In h) (G : h.Ns mainGlobals mg) (a : nsIn K mainGlobals x = some (some (.ref C))) (l : K.lookup C = some (excClassObj nm q C N bs ms true sn sub ab col dd k0 k1 k2 k3 k5 "ValueError.__new__")) (rv : HandSPX.refsVE ms = true)
    (sa : findIn K (.ref C) "__setattr__" = some (some (.builtin "object.__setattr__"))) (ga : findIn K (.ref C) "__getattribute__" = some (some (.builtin "BaseException.__getattribute__"))) (gg : findIn K (.ref C) "__getattr__" = some none)
    (no : findIn K (.ref C) "value" = some none) (iC : findIn K (.ref C) "__init__" = some (some (.ref fI))) (kC : keepIn K (.ref C) = true) (cc : findIn K (.ref C) "__class__" = some (some (.builtin "object.__class__"))) : EC K mg fI x C ms :=
  ⟨mg_of X G a, ⟨nm, q, N, bs, sn, sub, ab, col, dd, k0, k1, k2, k3, k5, l⟩, rv, sa, ga, gg, no, iC, kC, cc⟩
section
variable {K : Frag} {mg : Str → Option Value} {fI C : Addr} {x : Str} {ms : List Value}
theorem EC.clsIs (T : EC K mg fI x C ms) : ∃ cd : ClassData, clsIn K C = some cd ∧ cd.mro = .ref C :: ms ∧ cd.hasDict = true := by
  obtain ⟨nm, q, N, bs, sn, sub, ab, col, dd, k0, k1, k2, k3, k5, hC⟩ := T.cls
  refine ⟨{ name := nm, bases := bs, mro := .ref C :: ms, ns := N, qualname := q, hasDict := true, slotNames := sn, subclasses := sub, abstract := ab, collection := col, hasDel := false }, ?_, rfl, rfl⟩
  unfold clsIn
  rw [hC] <;> rfl
theorem EC.mro (T : EC K mg fI x C ms) (b : Value) : mroIn K C b = some ((Value.ref C :: ms).contains b) := by
  obtain ⟨cd, h1, h2, _⟩ := T.clsIs
  unfold mroIn
  rw [h1, Option.bind_some, h2]
  rfl
theorem EC.below (T : EC K mg fI x C ms) (n : String) (h : HandSPX.veTail.contains (.type n) = true) : mroIn K C (.type n) = some true := by
  rw [T.mro, List.contains_cons, HandSPX.refsVE_contains n ms T.rv, h, Bool.or_true]
theorem EC.ty (T : EC K mg fI x C ms) : typeIn K (.ref C) = some (.type "type") := by
  obtain ⟨nm, q, N, bs, sn, sub, ab, col, dd, k0, k1, k2, k3, k5, hC⟩ := T.cls
  show (K.lookup C).map (·.cls) = _
  rw [hC] <;> rfl
theorem EC.oex (T : EC K mg fI x C ms) : OexC K C := by
  obtain ⟨nm, q, N, bs, sn, sub, ab, col, dd, k0, k1, k2, k3, k5, hC⟩ := T.cls
  exact { cls := ⟨nm, q, N, bs, ms, sn, sub, ab, col, dd, k0, k1, k2, k3, k5, hC, T.rv⟩, sa := T.sa, exC := T.below "BaseException" (by decide +kernel), tyC := T.ty, kC := T.kC }
theorem EC.kit (T : EC K mg fI x C ms) (G : EG K fI) {e : Addr} {oe : Obj} {od : Option Obj} : KitX K (.ref e) (.ref C) (fun h => InstAt h e oe C od) := by
  obtain ⟨cd, h1, _, _⟩ := T.clsIs
  exact kitx_exc (by rw [h1]; rfl) T.ga T.gg (T.below "BaseException" (by decide +kernel)) T.cc G.hn G.ht (T.below "object" (by decide +kernel))
/-- isinstance of an error of the class at C against another class of errors -/
theorem EC.one (T : EC K mg fI x C ms) {x' : Str} {D : Addr} {ms' : List Value} (T' : EC K mg fI x' D ms') : kitOne K (.ref C) (.ref D) = some ((Value.ref C :: ms).contains (.ref D)) := by
  unfold kitOne
  by_cases h : (Value.ref C == Value.ref D) = true
  · rw [if_pos h, List.contains_cons]
    have e : C = D := Value.ref.inj (beq_iff_eq.mp h)
    subst e
    simp
  · rw [if_neg h]
    obtain ⟨cd, h1, _, _⟩ := T'.clsIs
    show (if ((clsIn K D).isSome && typeIn K (.ref D) == some (.type "type")) = true then subIn K (.ref C) (.ref D) else none) = _
    rw [if_pos (by rw [h1, T'.ty]; rfl)]
    exact T.mro _
theorem EC.oneT (T : EC K mg fI x C ms) : kitOne K (.ref C) (.type "ValueError") = some true := by
  unfold kitOne
  rw [if_neg (fun q => Value.noConfusion (beq_iff_eq.mp q))]
  show (if kitMeta "ValueError" = true then subIn K (.ref C) (.type "ValueError") else none) = _
  rw [if_pos (by decide +kernel)]
  exact T.below "ValueError" (by decide +kernel)
/-- 'except D' takes an error of the class at C, D behind it in the order of lookup -/
theorem EC.takes (T : EC K mg fI x C ms) {x' : Str} {D : Addr} {ms' : List Value} (T' : EC K mg fI x' D ms') (h : (Value.ref C :: ms).contains (.ref D) = true) : exmOne K (.ref C) (.ref D) = some true := by
  have e1 : (subIn K (.ref D) (.type "BaseException") == some true) = true := by
    rw [show subIn K (.ref D) (.type "BaseException") = some true from T'.below "BaseException" (by decide +kernel)]
    rfl
  obtain ⟨cd, h1, _, _⟩ := T'.clsIs
  have e2 : ((clsIn K D).isSome && typeIn K (.ref D) == some (.type "type")) = true := by
    rw [h1, T'.ty]
    rfl
  show (if (subIn K (.ref D) (.type "BaseException") == some true) = true then (if ((clsIn K D).isSome && typeIn K (.ref D) == some (.type "type")) = true then subIn K (.ref C) (.ref D) else none) else none) = some true
  rw [if_pos e1, if_pos e2]
  show mroIn K C (.ref D) = some true
  rw [T.mro, h]
end
/-- at e: a caught error of the class at C that holds v -/
def ErrV (H : Hp) (e C : Addr) (v : V) : Prop := ∃ d, H e = some (ErO (.ref C) (some d) e) ∧ H d = some (.xd [(("value" : Str), v)])
theorem ErrV.same {H H' : Hp} {e C : Addr} {v : V} (h : ErrV H e C v) (s : Same H H') : ErrV H' e C v := by
  obtain ⟨d, h1, h2⟩ := h
  exact ⟨d, s _ _ h1, s _ _ h2⟩
theorem errv_inst {X : Cx} {pins : List (Addr × Obj)} {σ : L2.St} {H : Hp} {s : Shared} {C e : Addr} {v : V} (I : Inv X pins σ H s) (h : ErrV H e C v) : ∃ (oe od : Obj), InstAt s.heap e oe C (some od) ∧ (∃ u, lookIn "value" od = some (some u) ∧ RelV v u) := by
  obtain ⟨d, h1, h2⟩ := h
  have z1 : ObjOk X.prog X.w H s.heap e (ErO (.ref C) (some d) e) := I.hok e _ h1
  obtain ⟨⟨oe, vs, ge, zc, hf⟩, _, _⟩ := z1
  have z2 : ObjOk X.prog X.w H s.heap d (.xd [(("value" : Str), v)]) := I.hok d _ h2
  obtain ⟨mA, hns, hr⟩ := z2
  obtain ⟨od, hd, hl⟩ := lookIn_ns hns
  have l : List.lookup ("value" : Str) [(("value" : Str), v)] = some v := by simp [List.lookup]
  obtain ⟨u, hu, ru⟩ := RelO.some_of (v := v) (o := mA "value") (by rw [← l]; exact hr "value")
  exact ⟨oe, od, ⟨ge, zc.1, by unfold notCls; rw [hf] <;> rfl, by rw [zc.2]; exact hd⟩, u, by rw [hl, hu], ru⟩
/-- e.value, e an error -/
def tErrW (K : Frag) (mg : Str → Option Value) (fI : Addr) (te : TE) : TE := fun σ H Q => te σ H fun y H1 =>
  ∃ (e C : Addr) (v : V) (x : Str) (ms : List Value), y = .ref e ∧ EC K mg fI x C ms ∧ ErrV H1 e C v ∧ Q v H1
/-- isinstance(e, c), e an error -/
def rIsErrW (K : Frag) (mg : Str → Option Value) (fI : Addr) : List V → Hp → VK → Prop := fun xs H Q =>
  ∃ (e C : Addr) (v c : V) (u : Value) (b : Bool) (x : Str) (ms : List Value), xs = [.ref e, c] ∧ ClsV c u ∧ EC K mg fI x C ms ∧ ErrV H e C v ∧ kitOne K (.ref C) u = some b ∧ Q (.bl b) H
/-- what __init__ does for an error that is being made -/
def spInit (K : Frag) : Sp := fun vs H Q _ => ∃ (a C : Addr) (v : V), vs = [.ref a, v] ∧ OexC K C ∧ findIn K (.ref C) "value" = some none ∧ H a = some (exo a C none) ∧
  ∀ dx, H dx = none → dx ≠ a → Q .non (L2.upd (L2.upd H dx (exd dx [(("value" : Str), v)])) a (exo a C (some dx)))
section
variable {X : Cx} {fI C : Addr} {x : Str} {ms : List Value} {te : TE} {ta : TA} {e : Expr} {p pos : Pos}
theorem pe_errw (he : PE X e te) (hb : attributeBase e "value" X.env (eval e X.env) = eval e X.env := by rfl) :
    PE X (.Attribute e "value" pos) (tErrW X.K X.mg fI te) := by
  refine ⟨fun pins s σ H Q I h => attr_of hb (thn (he.run pins s σ H _ I h) fun u s1 hh => ?_)⟩
  obtain ⟨y, H1, I1, ry, e1, C1, v, x1, ms1, ey, T, er, q⟩ := hh
  subst ey
  obtain rfl : u = Value.ref e1 := ry
  obtain ⟨oe, od, J, u, hu, ru⟩ := errv_inst I1 er
  obtain ⟨cd, h1, h2, h3⟩ := T.clsIs
  have hd : hasDictIn X.K C1 = true := by
    show (clsIn X.K C1).any (·.hasDict) = true
    rw [h1]
    exact h3
  exact HandSPX.exc_get I1.kIn J T.ga T.gg (T.below "BaseException" (by decide +kernel)) (findObj_own hd T.no rfl hu) (handed_of ru) ⟨v, H1, I1.tok _, ru, q⟩
theorem call_isErrW (G : EG X.K fI) : CallR X (.builtin "isinstance") (rIsErrW X.K X.mg fI) := by
  intro pins s σ H xs us Q I r h
  obtain ⟨e, C, v, c, w, b, x, ms, rfl, k, T, er, ek, q⟩ := h
  obtain ⟨u1, u2, rfl, r1, r2⟩ := vals2 r
  obtain rfl : u1 = Value.ref e := r1
  have e2 := k.eq r2
  subst e2
  obtain ⟨oe, od, J, _⟩ := errv_inst I er
  exact kia_one (T.kit G) I.kIn J ek (fun z => nomatch z) fun tk => ⟨.bl b, H, I.tok tk, rfl, q⟩
end
/-- the error that was made, and let go -/
theorem init_end {K : Frag} {C : Addr} {v : V} {H1 : Hp} {Q : XK} (T : OexC K C) (no : findIn K (.ref C) "value" = some none)
    (q : ∀ d, H1 d = none → Q (.ref C) (some d) (L2.upd H1 d (.xd [(("value" : Str), v)]))) : [v].length ≤ 1000 ∧ ∀ a, H1 a = none → spInit K (.ref a :: ([v] ++ [])) (L2.upd H1 a (exo a C none))
      (fun y H2 => y = .non ∧ ∃ (d : Addr) (fs : List (Str × V)), H2 a = some (exo a C (some d)) ∧ H2 d = some (exd d fs) ∧ H1 d = none ∧ Q (.ref C) (some d) (L2.upd (del H2 a) d (.xd fs))) (fun _ _ _ => False) := by
  refine ⟨(by show 1 ≤ 1000; decide), fun a na => ⟨a, C, v, rfl, T, no, upd_same, fun dx nd ne => ⟨rfl, dx, [(("value" : Str), v)], upd_same, ?_, ?_, ?_⟩⟩⟩
  · rw [upd_ne ne, upd_same]
  · rw [upd_ne ne] at nd
    exact nd
  · rw [upd_ne ne] at nd
    have z := q dx nd
    refine cast (congrArg _ ?_) z
    funext b
    by_cases h1 : b = dx
    · rw [h1, upd_same, upd_same]
    · rw [upd_ne h1, upd_ne h1]
      by_cases h2 : b = a
      · rw [h2, del_same]
        exact na
      · rw [del_ne h2, upd_ne h2, upd_ne h1, upd_ne h2]
end Qb
end PySem
namespace PySem
namespace Qb
open PySem.W PySem.Calls PyProof.Rows L2
/-! # things that share no list: S holds the places of their lists -/
mutual
inductive Ow (K : Frag) (H : Hp) : V → PyData → List Addr → Prop where
  | non : Ow K H .non .none []
  | bl (b : Bool) : Ow K H (.bl b) (.bool b) []
  | int (i : Int) : Ow K H (.int i) (.int i) []
  | str (x : Str) : Ow K H (.str x) (.str x) []
  | lst {a : Addr} {xs : List V} {ds : List PyData} {S : List Addr} (h : H a = some (.lst xs)) (al : OwAll K H xs ds S) (n : a ∉ S) : Ow K H (.ref a) (.list ds) (a :: S)
  | tup {a : Addr} {xs : List V} {ds : List PyData} {S : List Addr} (h : SqT K H a xs) (al : OwAll K H xs ds S) : Ow K H (.ref a) (.tuple ds) S
inductive OwAll (K : Frag) (H : Hp) : List V → List PyData → List Addr → Prop where
  | nil : OwAll K H [] [] []
  | cons {v : V} {vs : List V} {d : PyData} {ds : List PyData} {S T : List Addr} (h : Ow K H v d S) (t : OwAll K H vs ds T) (n : ∀ b ∈ S, b ∉ T) : OwAll K H (v :: vs) (d :: ds) (S ++ T)
end
/-- H' is H but at the places S -/
def But (S : List Addr) (H H' : Hp) : Prop := ∀ b u, H b = some u → b ∉ S → H' b = some u
/-- lists stand at all places S -/
def Lis (S : List Addr) (H : Hp) : Prop := ∀ b ∈ S, ∃ xs, H b = some (.lst xs)
section
variable {K : Frag} {H H' H'' : Hp}
theorem But.of (s : Same H H') (S : List Addr) : But S H H' := fun b u e _ => s b u e
theorem But.refl (S : List Addr) : But S H H := fun _ _ e _ => e
theorem But.more {S T : List Addr} (h : But S H H') (l : ∀ b ∈ S, b ∈ T) : But T H H' := fun b u e n => h b u e fun m => n (l b m)
theorem But.trans {S : List Addr} (h : But S H H') (h' : But S H' H'') : But S H H'' := fun b u e n => h' b u (h b u e n) n
theorem But.put {a : Addr} {o : HO} : But [a] H (L2.upd H a o) := fun b u e n => by
  rw [upd_ne (fun z => n (by rw [z]; exact .head _))]
  exact e
theorem ow_lis {v : V} {d : PyData} {S : List Addr} (h : Ow K H v d S) : Lis S H :=
  Ow.rec (motive_1 := fun _ _ S _ => Lis S H) (motive_2 := fun _ _ S _ => Lis S H) (fun b m => by cases m) (fun _ b m => by cases m) (fun _ b m => by cases m) (fun _ b m => by cases m)
    (fun h _ _ ih b m => by
      rcases List.mem_cons.mp m with rfl | m
      · exact ⟨_, h⟩
      · exact ih b m) (fun _ _ ih => ih) (fun b m => by cases m) (fun _ _ _ i1 i2 b m => (List.mem_append.mp m).elim (i1 b) (i2 b)) h
theorem owAll_lis : ∀ {vs : List V} {ds : List PyData} {S : List Addr}, OwAll K H vs ds S → Lis S H
  | _, _, _, .nil => fun b m => by cases m
  | _, _, _, .cons h t _ => fun b m => (List.mem_append.mp m).elim (ow_lis h b) (owAll_lis t b)
theorem sqT_but {S : List Addr} {a : Addr} {xs : List V} (f : But S H H') (l : Lis S H) (h : SqT K H a xs) : SqT K H' a xs := by
  rcases h with (h | ⟨o, h⟩) | h
  · refine .inl (.inl (f _ _ h fun m => ?_))
    obtain ⟨ys, e⟩ := l _ m
    rw [h] at e
    cases e
  · refine .inl (.inr ⟨o, f _ _ h fun m => ?_⟩)
    obtain ⟨ys, e⟩ := l _ m
    rw [h] at e
    cases e
  · exact .inr h
theorem ow_frame {S : List Addr} (f : But S H H') (l : Lis S H) {v : V} {d : PyData} {T : List Addr} (h : Ow K H v d T) : (∀ b ∈ T, b ∉ S) → Ow K H' v d T :=
  Ow.rec (motive_1 := fun v d T _ => (∀ b ∈ T, b ∉ S) → Ow K H' v d T) (motive_2 := fun vs ds T _ => (∀ b ∈ T, b ∉ S) → OwAll K H' vs ds T) (fun _ => .non) (fun b _ => .bl b) (fun i _ => .int i) (fun x _ => .str x)
    (fun h _ n ih m => .lst (f _ _ h (m _ (.head _))) (ih fun b mb => m b (.tail _ mb)) n) (fun h _ ih m => .tup (sqT_but f l h) (ih m)) (fun _ => .nil)
    (fun _ _ n i1 i2 m => .cons (i1 fun b mb => m b (List.mem_append_left _ mb)) (i2 fun b mb => m b (List.mem_append_right _ mb)) n) h
theorem owAll_frame {S : List Addr} (f : But S H H') (l : Lis S H) : ∀ {vs : List V} {ds : List PyData} {T : List Addr}, OwAll K H vs ds T → (∀ b ∈ T, b ∉ S) → OwAll K H' vs ds T
  | _, _, _, .nil, _ => .nil
  | _, _, _, .cons h t n, m => .cons (ow_frame f l h fun b mb => m b (List.mem_append_left _ mb)) (owAll_frame f l t fun b mb => m b (List.mem_append_right _ mb)) n
theorem ow_same (s : Same H H') {v : V} {d : PyData} {T : List Addr} (h : Ow K H v d T) : Ow K H' v d T := ow_frame (S := []) (But.of s _) (fun b m => by cases m) h fun b _ z => by cases z
theorem owAll_same (s : Same H H') {v : List V} {d : List PyData} {T : List Addr} (h : OwAll K H v d T) : OwAll K H' v d T := owAll_frame (S := []) (But.of s _) (fun b m => by cases m) h fun b _ z => by cases z
theorem ow_dp {v : V} {d : PyData} {S : List Addr} (h : Ow K H v d S) : Dp K H v d :=
  Ow.rec (motive_1 := fun v d _ _ => Dp K H v d) (motive_2 := fun vs ds _ _ => DpAll K H vs ds) .non (fun b => .bl b) (fun i => .int i) (fun x => .str x) (fun h _ _ ih => .lst (SqL.of h) ih) (fun h _ ih => .tup h ih) .nil (fun _ _ _ i1 i2 => .cons i1 i2) h
theorem owAll_dp : ∀ {vs : List V} {ds : List PyData} {S : List Addr}, OwAll K H vs ds S → DpAll K H vs ds
  | _, _, _, .nil => .nil
  | _, _, _, .cons h t _ => .cons (ow_dp h) (owAll_dp t)
theorem owAll_add : ∀ {vs : List V} {ds : List PyData} {S : List Addr}, OwAll K H vs ds S → ∀ {v : V} {d : PyData} {T : List Addr}, Ow K H v d T → (∀ b ∈ S, b ∉ T) → ∃ U, OwAll K H (vs ++ [v]) (ds ++ [d]) U ∧ ∀ b, b ∈ U ↔ b ∈ S ∨ b ∈ T
  | _, _, _, .nil, v, d, T, h, _ => ⟨T ++ [], .cons h .nil (fun _ _ z => by cases z), fun b => by simp⟩
  | _, _, _, .cons (S := S1) (T := S2) h0 t n, v, d, T, h, m => by
    obtain ⟨U, hU, e⟩ := owAll_add t h fun b mb => m b (List.mem_append_right _ mb)
    refine ⟨S1 ++ U, .cons h0 hU fun b mb z => ?_, fun b => ?_⟩
    · rcases (e b).mp z with z | z
      · exact n b mb z
      · exact m b (List.mem_append_left _ mb) z
    · rw [List.mem_append, e, List.mem_append, or_assoc]
/-- a list of own things that is being made at D -/
def OwB (K : Frag) (H H' : Hp) (D : Addr) (ds : List PyData) : Prop := H D = none ∧ Same H (hide H' D) ∧ ∃ ys S, H' D = some (.lst ys) ∧ OwAll K H' ys ds S ∧ (∀ b ∈ S, H b = none) ∧ D ∉ S
theorem OwB.new {D : Addr} (n : H D = none) : OwB K H (L2.upd H D (.lst [])) D [] := ⟨n, hide_of (same_upd n) n, [], [], upd_same, .nil, (fun b m => by cases m), (fun m => by cases m)⟩
theorem OwB.base {D : Addr} {ds : List PyData} (b : OwB K H H' D ds) : Same H H' := b.2.1.trans hide_same
theorem OwB.there {D : Addr} {ds : List PyData} (b : OwB K H H' D ds) : ∃ ys, H' D = some (.lst ys) := by
  obtain ⟨n, s0, ys, S, h, r⟩ := b
  exact ⟨ys, h⟩
theorem OwB.same {D : Addr} {ds : List PyData} (b : OwB K H H' D ds) (s : Same H' H'') : OwB K H H'' D ds := by
  obtain ⟨n, s0, ys, S, h, a, nw, nd⟩ := b
  exact ⟨n, s0.trans (hide_mono s), ys, S, s _ _ h, owAll_same s a, nw, nd⟩
theorem OwB.put {H2 : Hp} {D : Addr} {ds : List PyData} (b : OwB K H H' D ds) (s : Same H' H2) : ∃ ys, H2 D = some (.lst ys) ∧ ys.length = ds.length ∧ ∀ v d T, Ow K H2 v d T → (∀ b ∈ T, H' b = none) → OwB K H (L2.upd H2 D (.lst (ys ++ [v]))) D (ds ++ [d]) := by
  have base := b.base
  obtain ⟨n, s0, ys, S, h, a, nw, nd⟩ := b
  refine ⟨ys, s _ _ h, dpLen (owAll_dp a), fun v d T hv nT => ?_⟩
  have ls := owAll_lis a
  have dj : ∀ b ∈ S, b ∉ T := fun b mb z => by
    obtain ⟨xs, e⟩ := ls b mb
    rw [nT b z] at e
    cases e
  have dT : D ∉ T := fun z => by
    have e := nT D z
    rw [h] at e
    cases e
  obtain ⟨U, hU, eU⟩ := owAll_add (owAll_same s a) hv dj
  have nU : D ∉ U := fun z => ((eU D).mp z).elim nd dT
  refine ⟨n, (s0.trans (hide_mono s)).trans hide_upd, _, U, upd_same, owAll_frame (S := [D]) But.put (fun b m => ?_) hU (fun b mb z => ?_), fun b mb => ?_, nU⟩
  · rcases List.mem_singleton.mp m with rfl
    exact ⟨_, s _ _ h⟩
  · rcases List.mem_singleton.mp z with rfl
    exact nU mb
  · rcases (eU b).mp mb with mb | mb
    · exact nw b mb
    · cases e : H b with
      | none => rfl
      | some u =>
        have z := base b u e
        rw [nT b mb] at z
        cases z
end
/-! # data by its depth -/
def Pl0 (d : PyData) : Prop := (∃ x, d = .str x) ∨ (∃ b, d = .bool b) ∨ (∃ i, d = .int i) ∨ d = .none
def Pl : Nat → PyData → Prop
  | 0, d => Pl0 d
  | n + 1, d => Pl0 d ∨ ∃ ds : List PyData, (d = .list ds ∨ d = .tuple ds) ∧ ds.length ≤ 1000 ∧ ∀ e ∈ ds, Pl n e
theorem pl_cases {n : Nat} {d : PyData} (hp : Pl n d) : Pl0 d ∨ ∃ m ds, n = m + 1 ∧ (d = .list ds ∨ d = .tuple ds) ∧ ds.length ≤ 1000 ∧ ∀ e ∈ ds, Pl m e := by
  cases n with
  | zero => exact .inl hp
  | succ m =>
    rcases hp with h | ⟨ds, h⟩
    · exact .inl h
    · exact .inr ⟨m, ds, rfl, h⟩
theorem kan {K : PySem.W.Frag} {t c : Value} {cs : List Value} {r : Bool} (h : PySem.W.kitOne K t c = some false) (hr : PySem.W.kitAny K t cs = some r) : PySem.W.kitAny K t (c :: cs) = some r := kitAny_cons h (fun _ => hr) (fun z => by cases z)
theorem kay {K : PySem.W.Frag} {t c : Value} {cs : List Value} (h : PySem.W.kitOne K t c = some true) : PySem.W.kitAny K t (c :: cs) = some true := kitAny_cons h (fun z => by cases z) (fun _ => rfl)
theorem ty_lst {K : Frag} {H : Hp} {a : Addr} {xs : List V} (h : SqL K H a xs) : TyX K H (.ref a) (.type "list") := by
  rcases h with (h | ⟨o, h⟩) | ⟨o, its, n, h, c, _⟩
  · exact .base (.lst h)
  · exact .base (.frz h)
  · exact .kList h c
theorem ty_tup {K : Frag} {H : Hp} {a : Addr} {xs : List V} (h : SqT K H a xs) : TyX K H (.ref a) (.type "tuple") := by
  rcases h with (h | ⟨o, h⟩) | ⟨o, its, n, h, c, _⟩
  · exact .base (.tup h)
  · exact .fTuple h
  · exact .kTuple h c
/-- data that is no list and no tuple, with its type -/
theorem pl0_ty {K : Frag} {H : Hp} {v : V} {d : PyData} (h : Pl0 d) (dp : Dp K H v d) : Ow K H v d [] ∧ ∃ n, TyX K H v (.type n) ∧ (n = "str" ∨ n = "bool" ∨ n = "int" ∨ n = "NoneType") := by
  rcases h with ⟨x, rfl⟩ | ⟨x, rfl⟩ | ⟨x, rfl⟩ | rfl
  · cases dp
    exact ⟨.str x, _, .base (.str x), .inl rfl⟩
  · cases dp
    exact ⟨.bl x, _, .base (.bl x), .inr (.inl rfl)⟩
  · cases dp
    exact ⟨.int x, _, .base (.int x), .inr (.inr (.inl rfl))⟩
  · cases dp
    exact ⟨.non, _, .base .non, .inr (.inr (.inr rfl))⟩
theorem flat_no {K : Frag} {n : String} (h : n = "str" ∨ n = "bool" ∨ n = "int" ∨ n = "NoneType") : kitOne K (.type n) (.type "list") = some false ∧ kitOne K (.type n) (.type "tuple") = some false ∧ kitOne K (.type n) (.type "dict") = some false := by
  rcases h with rfl | rfl | rfl | rfl
  · exact ⟨kit_ty (by decide +kernel), kit_ty (by decide +kernel), kit_ty (by decide +kernel)⟩
  · exact ⟨kit_ty (by decide +kernel), kit_ty (by decide +kernel), kit_ty (by decide +kernel)⟩
  · exact ⟨kit_ty (by decide +kernel), kit_ty (by decide +kernel), kit_ty (by decide +kernel)⟩
  · exact ⟨kit_ty (by decide +kernel), kit_ty (by decide +kernel), kit_ty (by decide +kernel)⟩
/-- an own copy is made -/
def spOw (K : Frag) : Nat → Sp
  | 0 => fun _ _ _ _ => False
  | n + 1 => fun vs H Q _ => ∃ (v : V) (d : PyData), vs = [v] ∧ Dp K H v d ∧ Pl n d ∧ ∀ (H' : Hp) (u : V) (S : List Addr), Same H H' → Ow K H' u d S → (∀ b ∈ S, H b = none) → Q u H'
/-- what was own is spoilt: nothing but its lists changes -/
def spSl (K : Frag) : Nat → Sp
  | 0 => fun _ _ _ _ => False
  | n + 1 => fun vs H Q _ => ∃ (v : V) (d : PyData) (S : List Addr), vs = [v] ∧ Ow K H v d S ∧ Pl n d ∧ ∀ (H' : Hp), But S H H' → Lis S H' → Q .non H'
end Qb
end PySem
namespace PySem
namespace Qb
open PySem.W PySem.Calls PyProof.Rows L2
/-! # sums, shown and read -/
inductive Sm where
  | num (n : Int)
  | of (w : Str)
  | one (s : Str) (a : Sm)
  | two (s : Str) (a b : Sm)
  | three (s : Str) (a b c : Sm)
def Sm.d : Sm → PyData
  | .num n => .tuple [.str "number", .int n]
  | .of w => .tuple [.str "of", .str w]
  | .one s a => .tuple [.str s, a.d]
  | .two s a b => .tuple [.str s, a.d, b.d]
  | .three s a b c => .tuple [.str s, a.d, b.d, c.d]
abbrev L := List Nat
def digC : L := [48, 49, 50, 51, 52, 53, 54, 55, 56, 57]
def staC : L := cs ("abcdefghijklmnopqrstuvwxyzABCDEFGHIJKLMNOPQRSTUVWXYZ_" : Str)
def namC : L := cs ("abcdefghijklmnopqrstuvwxyzABCDEFGHIJKLMNOPQRSTUVWXYZ_0123456789" : Str)
def wsC : L := [32, 10]
/-- the signs of two parts in the order in which they are looked for -/
def tpk : List (Str × L) := [("&&", [38, 38]), ("||", [124, 124]), ("<=", [60, 61]), (">=", [62, 61]), ("==", [61, 61]), ("!=", [33, 61]), ("<", [60]), (">", [62]), ("*", [42]), ("/", [47]), ("^", [94]), ("+", [43]), ("-", [45])]
theorem tpk_cs : ∀ p ∈ tpk, cs p.1 = p.2 := by decide +kernel
def rks : List (Str × Nat) := [("||", 2), ("&&", 3), ("==", 4), ("!=", 4), ("<", 5), ("<=", 5), (">", 5), (">=", 5), ("+", 6), ("-", 6), ("*", 7), ("/", 7), ("^", 7)]
def rk (s : Str) : Nat := (rks.lookup s).getD 0
def isOp (s : Str) : Bool := (rks.lookup s).isSome
theorem tpk_op : ∀ p ∈ tpk, isOp p.1 = true ∧ 2 ≤ rk p.1 ∧ rk p.1 ≤ 7 := by decide +kernel
theorem op_tpk {s : Str} (h : isOp s = true) : ∃ c, (s, c) ∈ tpk := by
  have key : ∀ q ∈ rks, ∃ p ∈ tpk, p.1 = q.1 := by decide +kernel
  unfold isOp at h
  obtain ⟨n, hn⟩ := Option.isSome_iff_exists.mp h
  have m : (s, n) ∈ rks := by
    have g : ∀ (l : List (Str × Nat)), l.lookup s = some n → (s, n) ∈ l := by
      intro l
      induction l with
      | nil => intro z; cases z
      | cons p l ih =>
        intro z
        obtain ⟨a, b⟩ := p
        rw [List.lookup_cons] at z
        cases e : (s == a) with
        | true =>
          rw [e] at z
          cases z
          obtain rfl := beq_iff_eq.mp e
          exact .head _
        | false =>
          rw [e] at z
          exact .tail _ (ih z)
    exact g _ hn
  obtain ⟨⟨s', c⟩, mp, e⟩ := key _ m
  exact ⟨c, by rw [← (show s' = s from e)]; exact mp⟩
/-! ## shown -/
def Sm.rank : Sm → Nat
  | .num _ => 9
  | .of _ => 9
  | .one _ _ => 8
  | .two s _ _ => rk s
  | .three _ _ _ _ => 1
def isNm (l : L) : Bool := match l with
  | [] => false
  | c :: r => decide (c ∈ staC) && r.all fun d => decide (d ∈ namC)
def aheadC (s : Str) : L := if s = "no" then [33] else [45]
def par (b : Bool) (l : L) : L := if b then 40 :: (l ++ [41]) else l
def Sm.shw : Sm → L
  | .num n => cs (Str.ofString (toString n))
  | .of w => if isNm (cs w) then cs w else 36 :: cs w
  | .one s a => aheadC s ++ par (decide (a.rank < 8)) a.shw
  | .two s a b => par (decide (a.rank < rk s)) a.shw ++ 32 :: (cs s ++ 32 :: par (decide (b.rank < rk s + 1)) b.shw)
  | .three _ a b c => par (decide (a.rank < 2)) a.shw ++ 32 :: 63 :: 32 :: (b.shw ++ 32 :: 58 :: 32 :: par (decide (c.rank < 1)) c.shw)
/-! ## read -/
def spc (r : L) : L := r.dropWhile fun c => decide (c ∈ wsC)
def tpSign (r : L) : Option (Str × L) := tpk.find? fun p => p.2.isPrefixOf r
def digVal (l : L) : Nat := l.foldl (fun n c => 10 * n + (c - 48)) 0
def rdDig (r : L) : Option (L × L) :=
  let d := r.takeWhile fun c => decide (c ∈ digC)
  if d = [] ∨ (d.head? = some 48 ∧ 1 < d.length) then none else some (d, r.dropWhile fun c => decide (c ∈ digC))
def rdPlc : L → Option (L × L)
  | 35 :: r => some ([35], r)
  | 63 :: r => some ([63], r)
  | r => rdDig r
def st (l : L) : Str := ⟨l.toArray⟩
theorem cs_st (l : L) : cs (st l) = l := by simp [st, cs]
theorem st_cs (x : Str) : st (cs x) = x := by
  obtain ⟨a⟩ := x
  show (⟨a.toList.toArray⟩ : Str) = ⟨a⟩
  rw [Array.toArray_toList]
abbrev Rd := L → Option (Sm × L)
def loopW (two : Nat → Rd) : Nat → Nat → Sm → Rd
  | 0, _, _, _ => none
  | m + 1, l, t, r => match tpSign r with
    | none => some (t, r)
    | some p => if l ≤ rk p.1 then (match two (rk p.1 + 1) (r.drop p.2.length) with
        | none => none
        | some (u, r2) => loopW two m l (.two p.1 t u) r2) else some (t, r)
def sumF (sum : Rd) (two : Nat → Rd) : Rd := fun r => match two 2 r with
  | none => none
  | some (t, 63 :: r2) => (match sum r2 with
    | some (a, 58 :: r3) => (match sum r3 with
      | none => none
      | some (b, r4) => some (.three "choose" t a b, r4))
    | _ => none)
  | some (t, r1) => some (t, r1)
def twoF (two : Nat → Rd) (ahead : Rd) : Nat → Rd := fun l r => match ahead r with
  | none => none
  | some (t, r1) => loopW two (r1.length + 1) l t r1
def aheadF (ahead plain : Rd) : Rd := fun r => match spc r with
  | 45 :: r1 => (match ahead r1 with
    | none => none
    | some (t, r2) => some (.one "minus" t, r2))
  | 33 :: r1 => (match ahead r1 with
    | none => none
    | some (t, r2) => some (.one "no" t, r2))
  | r1 => (match plain r1 with
    | none => none
    | some (t, r2) => some (t, spc r2))
def plainF (sum : Rd) : Rd := fun r => match r with
  | 40 :: r1 => (match sum r1 with
    | some (t, 41 :: r2) => some (t, r2)
    | _ => none)
  | 36 :: r1 => (match rdPlc r1 with
    | none => none
    | some (w, r2) => some (.of (st w), r2))
  | c :: r1 => if c ∈ staC then some (.of (st ((c :: r1).takeWhile fun d => decide (d ∈ namC))), (c :: r1).dropWhile fun d => decide (d ∈ namC)) else (match rdDig (c :: r1) with
    | none => none
    | some (d, r2) => some (.num (digVal d), r2))
  | [] => none
structure Rds where
  sum : Rd
  two : Nat → Rd
  ahead : Rd
  plain : Rd
def rds : Nat → Rds
  | 0 => ⟨fun _ => none, fun _ _ => none, fun _ => none, fun _ => none⟩
  | n + 1 => let p := rds n; ⟨sumF p.sum p.two, twoF p.two p.ahead, aheadF p.ahead p.plain, plainF p.sum⟩
end Qb
end PySem
namespace PySem
namespace Qb
open PySem.W PySem.Calls PyProof.Rows L2
/-! # what is read says of what was read -/
def Sm.pcs : Sm → Nat
  | .num _ => 0
  | .of _ => 0
  | .one _ a => a.pcs + if a.rank < 8 then 1 else 0
  | .two s a b => (a.pcs + if a.rank < rk s then 1 else 0) + (b.pcs + if b.rank < rk s + 1 then 1 else 0)
  | .three _ a b c => (a.pcs + if a.rank < 2 then 1 else 0) + b.pcs + (c.pcs + if c.rank < 1 then 1 else 0)
def Sm.pcl (l : Nat) (t : Sm) : Nat := t.pcs + if t.rank < l then 1 else 0
theorem pcl_mono {l m : Nat} {t : Sm} (h : l ≤ m) : t.pcl l ≤ t.pcl m := by
  unfold Sm.pcl
  by_cases a : t.rank < l
  · rw [if_pos a, if_pos (by omega)]
    exact Nat.le_refl _
  · rw [if_neg a]
    omega
theorem pcl_eq {l : Nat} {t : Sm} (h : l ≤ t.rank) : t.pcl l = t.pcs := by
  unfold Sm.pcl
  rw [if_neg (by omega)]
  rfl
def Sm.isz : Sm → Nat
  | .num _ => 0
  | .of _ => 0
  | .one _ a => 1 + a.isz
  | .two _ a b => 1 + a.isz + b.isz
  | .three _ a b c => 1 + a.isz + b.isz + c.isz
/-- how long its repr may be -/
def Sm.rl : Sm → Nat
  | .num n => 12 + (toString n).length
  | .of w => 10 + w.length
  | .one _ a => 11 + a.rl
  | .two _ a b => 10 + a.rl + b.rl
  | .three _ a b c => 16 + a.rl + b.rl + c.rl
def safe (c : Nat) : Prop := c ∈ namC ∨ c = 35 ∨ c = 63
def Sm.good : Sm → Prop
  | .num n => 0 ≤ n ∧ n < 10 ^ 80
  | .of w => ∀ c ∈ cs w, safe c
  | .one s a => (s = "minus" ∨ s = "no") ∧ a.good
  | .two s a b => isOp s = true ∧ a.good ∧ b.good
  | .three s a b c => s = "choose" ∧ a.good ∧ b.good ∧ c.good
def cnt (p : L) : Nat := p.countP fun c => c == 40
def w2c (c : Nat) : Nat := if c ∈ [45, 33, 60, 62, 43, 42, 47, 94, 58] then 2 else if c ∈ [38, 124, 61] then 1 else 0
def w2 (p : L) : Nat := (p.map w2c).sum
theorem cnt_app (a b : L) : cnt (a ++ b) = cnt a + cnt b := List.countP_append ..
theorem w2_app (a b : L) : w2 (a ++ b) = w2 a + w2 b := by
  unfold w2
  rw [List.map_append, List.sum_append]
theorem tpk_w2 : ∀ p ∈ tpk, 2 ≤ w2 p.2 ∧ 1 ≤ p.2.length := by decide +kernel
/-- no row of digits is longer than k -/
def Rn (k : Nat) (r : L) : Prop := ∀ p q s, r = p ++ (q ++ s) → (∀ c ∈ q, c ∈ digC) → q.length ≤ k
theorem Rn.tail {k : Nat} {p r : L} (h : Rn k (p ++ r)) : Rn k r := fun p' q s e d => h (p ++ p') q s (by rw [e, List.append_assoc]) d
structure Ate (r : L) (l : Nat) (t : Sm) (p r' : L) : Prop where
  eq : r = p ++ r'
  pc : t.pcl l ≤ cnt p
  good : t.good
  sz : 2 * t.isz ≤ w2 p
  rl : t.rl ≤ 14 * p.length
  ne : 1 ≤ p.length
def NoNext (l : Nat) (r : L) : Prop := ∀ p, tpSign r = some p → rk p.1 < l
theorem tpSign_mem {r : L} {p : Str × L} (h : tpSign r = some p) : p ∈ tpk ∧ ∃ r', r = p.2 ++ r' ∧ r.drop p.2.length = r' := by
  have h1 := List.mem_of_find?_eq_some h
  have h2 := List.find?_some h
  obtain ⟨r', e⟩ := List.isPrefixOf_iff_prefix.mp h2
  exact ⟨h1, r', e.symm, by rw [← e]; simp⟩
theorem drop_pre {q : Nat → Bool} (r : L) : ∃ p, r = p ++ r.dropWhile q ∧ (r.takeWhile q) = p := ⟨r.takeWhile q, (List.takeWhile_append_dropWhile ..).symm, rfl⟩
theorem spc_pre (r : L) : ∃ p, r = p ++ spc r := let ⟨p, e, _⟩ := drop_pre (q := fun c => decide (c ∈ wsC)) r; ⟨p, e⟩
theorem loop_ate {two : Nat → Rd} (k : Nat) (H : ∀ l r t r', l ≤ 8 → Rn k r → two l r = some (t, r') → (∃ p, Ate r l t p r') ∧ NoNext l r') {l : Nat} (hl : l ≤ 8) :
    ∀ (m : Nat) (t : Sm) (r r0 p0 : L) (t' : Sm) (r' : L), Rn k r0 → Ate r0 l t p0 r → (∀ p, tpSign r = some p → t.pcl (rk p.1) ≤ cnt p0) → loopW two m l t r = some (t', r') →
      (∃ p, Ate r0 l t' p r') ∧ NoNext l r'
  | 0, t, r, r0, p0, t', r', _, _, _, e => by cases e
  | m + 1, t, r, r0, p0, t', r', rn, A, nx, e => by
    unfold loopW at e
    cases hs : tpSign r with
    | none =>
      rw [hs] at e
      cases e
      exact ⟨⟨p0, A⟩, fun p z => by rw [hs] at z; cases z⟩
    | some p =>
      rw [hs] at e
      dsimp only at e
      obtain ⟨mp, r1, e1, ed⟩ := tpSign_mem hs
      by_cases c : l ≤ rk p.1
      · rw [if_pos c, ed] at e
        have rn1 : Rn k r1 := by
          rw [A.eq, e1] at rn
          exact (rn.tail).tail
        have hk := tpk_op p mp
        cases h2 : two (rk p.1 + 1) r1 with
        | none =>
          rw [h2] at e
          cases e
        | some o =>
          obtain ⟨u, r2⟩ := o
          rw [h2] at e
          dsimp only at e
          obtain ⟨⟨q, B⟩, nb⟩ := H _ _ _ _ (by omega) rn1 h2
          have w := tpk_w2 p mp
          have A' : Ate r0 l (.two p.1 t u) (p0 ++ (p.2 ++ q)) r2 := by
            refine ⟨?_, ?_, ⟨hk.1, A.good, B.good⟩, ?_, ?_, ?_⟩
            · rw [A.eq, e1, B.eq]
              simp
            · rw [pcl_eq (show l ≤ (Sm.two p.1 t u).rank from c), cnt_app, cnt_app]
              have z1 := nx p hs
              have z2 := B.pc
              show (t.pcs + if t.rank < rk p.1 then 1 else 0) + (u.pcs + if u.rank < rk p.1 + 1 then 1 else 0) ≤ _
              unfold Sm.pcl at z1 z2
              omega
            · show 2 * (1 + t.isz + u.isz) ≤ _
              rw [w2_app, w2_app]
              have := A.sz
              have := B.sz
              omega
            · show 10 + t.rl + u.rl ≤ _
              have := A.rl
              have := B.rl
              simp only [List.length_append]
              omega
            · have := A.ne
              simp only [List.length_append]
              omega
          refine loop_ate k H hl m _ r2 r0 _ t' r' rn A' (fun p' z => ?_) e
          have z1 := nb p' z
          rw [pcl_eq (show rk p'.1 ≤ (Sm.two p.1 t u).rank from Nat.le_of_lt_succ z1), ← pcl_eq (show l ≤ (Sm.two p.1 t u).rank from c)]
          exact A'.pc
      · rw [if_neg c] at e
        cases e
        refine ⟨⟨p0, A⟩, fun p' z => ?_⟩
        rw [hs] at z
        cases z
        omega
theorem Ate.app {r r' : L} {l : Nat} {t : Sm} {p q : L} (A : Ate r l t p r') (x : L) (e : r' = q ++ x) : Ate r l t (p ++ q) x := by
  refine ⟨by rw [A.eq, e, List.append_assoc], ?_, A.good, ?_, ?_, ?_⟩
  · rw [cnt_app]
    exact Nat.le_trans A.pc (by omega)
  · rw [w2_app]
    exact Nat.le_trans A.sz (by omega)
  · have := A.rl
    rw [List.length_append]
    omega
  · have := A.ne
    rw [List.length_append]
    omega
theorem Ate.pre {r r' : L} {l : Nat} {t : Sm} {p q x : L} (A : Ate r l t p r') (e : x = q ++ r) : Ate x l t (q ++ p) r' := by
  refine ⟨by rw [e, A.eq, List.append_assoc], ?_, A.good, ?_, ?_, ?_⟩
  · rw [cnt_app]
    exact Nat.le_trans A.pc (by omega)
  · rw [w2_app]
    exact Nat.le_trans A.sz (by omega)
  · have := A.rl
    rw [List.length_append]
    omega
  · have := A.ne
    rw [List.length_append]
    omega
theorem Ate.le {r r' : L} {l m : Nat} {t : Sm} {p : L} (A : Ate r l t p r') (h : m ≤ l) : Ate r m t p r' := ⟨A.eq, Nat.le_trans (pcl_mono h) A.pc, A.good, A.sz, A.rl, A.ne⟩
theorem digVal_lt : ∀ (l : L), (∀ c ∈ l, c ∈ digC) → digVal l < 10 ^ l.length := by
  have key : ∀ (l : L) (n : Nat), (∀ c ∈ l, c ∈ digC) → l.foldl (fun n c => 10 * n + (c - 48)) n < (n + 1) * 10 ^ l.length := by
    intro l
    induction l with
    | nil => intro n _; simp
    | cons c l ih =>
      intro n h
      have hc : c - 48 ≤ 9 := (by decide +kernel : ∀ c ∈ digC, c - 48 ≤ 9) c (h c (.head _))
      have z := ih (10 * n + (c - 48)) fun d m => h d (.tail _ m)
      rw [List.foldl_cons, List.length_cons, Nat.pow_succ]
      refine Nat.lt_of_lt_of_le z ?_
      rw [show (n + 1) * (10 ^ l.length * 10) = (10 * n + 10) * 10 ^ l.length by rw [Nat.mul_comm (10 ^ l.length) 10, ← Nat.mul_assoc]; congr 1; omega]
      exact Nat.mul_le_mul_right _ (by omega)
  intro l h
  have z := key l 0 h
  rw [Nat.zero_add, Nat.one_mul] at z
  exact z
theorem tw_mem {p : Nat → Bool} : ∀ {l : L} {c : Nat}, c ∈ l.takeWhile p → p c = true
  | [], c, m => by cases m
  | d :: l, c, m => by
    by_cases h : p d = true
    · rw [List.takeWhile_cons_of_pos h] at m
      rcases List.mem_cons.mp m with rfl | m
      · exact h
      · exact tw_mem m
    · rw [List.takeWhile_cons_of_neg h] at m
      cases m
theorem dig_ate {k : Nat} {r d r2 : L} (h : rdDig r = some (d, r2)) : r = d ++ r2 ∧ 1 ≤ d.length ∧ (∀ c ∈ d, c ∈ digC) := by
  unfold rdDig at h
  dsimp only at h
  split at h
  · cases h
  · rename_i hn
    cases h
    refine ⟨(List.takeWhile_append_dropWhile ..).symm, ?_, fun c m => ?_⟩
    · cases e : r.takeWhile fun c => decide (c ∈ digC) with
      | nil => rw [e] at hn; exact (hn (.inl rfl)).elim
      | cons c l => simp
    · have z := tw_mem m
      simpa using z
theorem cnt_ge (p : L) : 0 ≤ cnt p := Nat.zero_le _
theorem len_str_int {n : Nat} {k : Nat} (h : n < 10 ^ k) (hk : 1 ≤ k) : (toString (n : Int)).length ≤ k := by
  show (toString n).length ≤ k
  show (Nat.repr n).length ≤ k
  exact (Nat.length_repr_le_iff (by omega)).mpr h
theorem plc_ate {r w r2 : L} (h : rdPlc r = some (w, r2)) : r = w ++ r2 ∧ 1 ≤ w.length ∧ ∀ c ∈ w, safe c := by
  unfold rdPlc at h
  split at h
  · cases h
    exact ⟨rfl, by simp, fun c m => .inr (.inl (by simpa using m))⟩
  · cases h
    exact ⟨rfl, by simp, fun c m => .inr (.inr (by simpa using m))⟩
  · obtain ⟨a, b, c⟩ := dig_ate (k := 0) h
    exact ⟨a, b, fun x m => .inl ((by decide +kernel : ∀ c ∈ digC, c ∈ namC) x (c x m))⟩
theorem plain_ate {k n : Nat} (hk : k ≤ 80) {sum : Rd} (H : ∀ r t r', Rn k r → sum r = some (t, r') → ∃ p, Ate r 1 t p r') {r : L} {t : Sm} {r' : L} (rn : Rn k r) (h : plainF sum r = some (t, r')) : ∃ p, Ate r 9 t p r' := by
  unfold plainF at h
  split at h
  · rename_i r1
    cases e : sum r1 with
    | none => rw [e] at h; cases h
    | some o =>
      obtain ⟨u, r2⟩ := o
      rw [e] at h
      split at h
      · rename_i a b r3 e2
        cases e2
        cases h
        obtain ⟨p, A⟩ := H _ _ _ (rn.tail (p := [40])) e
        refine ⟨40 :: (p ++ [41]), ?_, ?_, A.good, ?_, ?_, ?_⟩
        · rw [A.eq]
          simp
        · have z := A.pc
          have z2 : cnt (40 :: (p ++ [41])) = 1 + cnt p := by
            show cnt ([40] ++ (p ++ [41])) = _
            rw [cnt_app, cnt_app]
            rfl
          rw [z2]
          unfold Sm.pcl at z ⊢
          split <;> omega
        · have z := A.sz
          show _ ≤ w2 ([40] ++ (p ++ [41]))
          rw [w2_app, w2_app]
          omega
        · have z := A.rl
          simp only [List.length_cons, List.length_append]
          omega
        · simp
      · cases h
  · rename_i r1
    cases e : rdPlc r1 with
    | none => rw [e] at h; cases h
    | some o =>
      obtain ⟨w, r2⟩ := o
      rw [e] at h
      cases h
      obtain ⟨a, b, c⟩ := plc_ate e
      refine ⟨36 :: w, by rw [a]; rfl, ?_, fun x m => c x (by rw [cs_st] at m; exact m), by simp [Sm.isz], ?_, by simp⟩
      · rw [pcl_eq (show 9 ≤ (Sm.of _).rank from Nat.le_refl _)]
        exact Nat.zero_le _
      · show 10 + (st w).length ≤ _
        rw [len_cs, cs_st, List.length_cons]
        omega
  · rename_i c r1 h1 h2
    split at h
    · rename_i hc
      cases h
      have hc' : c ∈ namC := (by decide +kernel : ∀ c ∈ staC, c ∈ namC) c hc
      refine ⟨_, (List.takeWhile_append_dropWhile ..).symm, ?_, fun x m => .inl ?_, by simp [Sm.isz], ?_, ?_⟩
      · rw [pcl_eq (show 9 ≤ (Sm.of _).rank from Nat.le_refl _)]
        exact Nat.zero_le _
      · rw [cs_st] at m
        simpa using tw_mem m
      · show 10 + (st _).length ≤ _
        rw [len_cs, cs_st, List.takeWhile_cons_of_pos (by simpa using hc'), List.length_cons]
        omega
      · rw [List.takeWhile_cons_of_pos (by simpa using hc'), List.length_cons]
        omega
    · cases e : rdDig (c :: r1) with
      | none => rw [e] at h; cases h
      | some o =>
        obtain ⟨d, r2⟩ := o
        rw [e] at h
        cases h
        obtain ⟨a, b, dd⟩ := dig_ate (k := 0) e
        have lt := digVal_lt d dd
        have ld : d.length ≤ k := rn [] d _ a dd
        refine ⟨d, a, ?_, ⟨by omega, ?_⟩, by simp [Sm.isz], ?_, b⟩
        · rw [pcl_eq (show 9 ≤ (Sm.num _).rank from Nat.le_refl _)]
          exact Nat.zero_le _
        · have z : (10 : Nat) ^ d.length ≤ 10 ^ 80 := Nat.pow_le_pow_right (by decide) (by omega)
          have y := Nat.lt_of_lt_of_le lt z
          exact_mod_cast y
        · show 12 + (toString ((digVal d : Nat) : Int)).length ≤ _
          have := len_str_int lt b
          omega
  · cases h
theorem ahead_ate {k n : Nat} {ahead plain : Rd} (HA : ∀ r t r', Rn k r → ahead r = some (t, r') → ∃ p, Ate r 8 t p r') (HP : ∀ r t r', Rn k r → plain r = some (t, r') → ∃ p, Ate r 9 t p r') {r : L} {t : Sm} {r' : L} (rn : Rn k r) (h : aheadF ahead plain r = some (t, r')) :
    ∃ p, Ate r 8 t p r' := by
  obtain ⟨q, eq⟩ := spc_pre r
  have rq : Rn k (spc r) := by rw [eq] at rn; exact rn.tail
  have sg : ∀ (c : Nat) (s : Str) (r1 : L), 2 ≤ w2 [c] → (s = "minus" ∨ s = "no") → spc r = c :: r1 → (match ahead r1 with | none => none | some (t, r2) => some (Sm.one s t, r2)) = some (t, r') → ∃ p, Ate r 8 t p r' := by
    intro c s r1 hw hs e1 h
    cases e : ahead r1 with
    | none => rw [e] at h; cases h
    | some o =>
      obtain ⟨u, r2⟩ := o
      rw [e] at h
      cases h
      obtain ⟨p, A⟩ := HA _ _ _ (by rw [e1] at rq; exact rq.tail (p := [c])) e
      have z : Ate (spc r) 8 (.one s u) ([c] ++ p) r' := by
        refine ⟨by rw [e1, A.eq]; rfl, ?_, ⟨hs, A.good⟩, ?_, ?_, by simp⟩
        · rw [pcl_eq (show 8 ≤ (Sm.one _ _).rank from Nat.le_refl _), cnt_app]
          have := A.pc
          show u.pcl 8 ≤ _
          omega
        · rw [w2_app]
          have := A.sz
          show 2 * (1 + u.isz) ≤ _
          omega
        · have := A.rl
          show 11 + u.rl ≤ _
          simp only [List.length_append, List.length_cons, List.length_nil]
          omega
      exact ⟨_, z.pre eq⟩
  unfold aheadF at h
  split at h
  · rename_i r1 e1
    exact sg 45 "minus" r1 (by decide +kernel) (.inl rfl) e1 h
  · rename_i r1 e1
    exact sg 33 "no" r1 (by decide +kernel) (.inr rfl) e1 h
  · cases e : plain (spc r) with
    | none => rw [e] at h; cases h
    | some o =>
      obtain ⟨u, r2⟩ := o
      rw [e] at h
      cases h
      obtain ⟨p, A⟩ := HP _ _ _ rq e
      obtain ⟨q2, e2⟩ := spc_pre r2
      exact ⟨_, ((A.le (by decide)).app _ e2).pre eq⟩
theorem sum_ate {k n : Nat} {sum : Rd} {two : Nat → Rd} (H : ∀ r t r', Rn k r → sum r = some (t, r') → ∃ p, Ate r 1 t p r') (H2 : ∀ l r t r', l ≤ 8 → Rn k r → two l r = some (t, r') → (∃ p, Ate r l t p r') ∧ NoNext l r') {r : L} {t : Sm} {r' : L} (rn : Rn k r) (h : sumF sum two r = some (t, r')) :
    ∃ p, Ate r 1 t p r' := by
  unfold sumF at h
  split at h
  · cases h
  · skip
    rename_i t1 r2 e
    obtain ⟨⟨p, A⟩, _⟩ := H2 _ _ _ _ (by decide) rn e
    have rn2 : Rn k r2 := by rw [A.eq] at rn; exact (rn.tail).tail (p := [63])
    split at h
    · rename_i a r3 e3
      obtain ⟨p2, A2⟩ := H _ _ _ rn2 e3
      have rn3 : Rn k r3 := by rw [A2.eq] at rn2; exact (rn2.tail).tail (p := [58])
      cases e4 : sum r3 with
      | none => rw [e4] at h; cases h
      | some o =>
        obtain ⟨b, r4⟩ := o
        rw [e4] at h
        cases h
        obtain ⟨p3, A3⟩ := H _ _ _ rn3 e4
        refine ⟨p ++ ([63] ++ (p2 ++ ([58] ++ p3))), ?_, ?_, ⟨rfl, A.good, A2.good, A3.good⟩, ?_, ?_, ?_⟩
        · rw [A.eq, A2.eq, A3.eq]
          simp
        · rw [pcl_eq (show 1 ≤ (Sm.three _ _ _ _).rank from Nat.le_refl _)]
          simp only [cnt_app]
          have z1 := A.pc
          have z2 := A2.pc
          have z3 := A3.pc
          show t1.pcl 2 + a.pcs + b.pcl 1 ≤ _
          have : a.pcs ≤ a.pcl 1 := Nat.le_add_right _ _
          omega
        · simp only [w2_app]
          have := A.sz
          have := A2.sz
          have := A3.sz
          have : w2 [58] = 2 := by decide +kernel
          show 2 * (1 + t1.isz + a.isz + b.isz) ≤ _
          omega
        · have := A.rl
          have := A2.rl
          have := A3.rl
          show 16 + t1.rl + a.rl + b.rl ≤ _
          simp only [List.length_append, List.length_cons, List.length_nil]
          omega
        · have := A.ne
          simp only [List.length_append]
          omega
    · cases h
  · rename_i t1 r1 e1 e
    cases h
    obtain ⟨⟨p, A⟩, _⟩ := H2 _ _ _ _ (by decide) rn e
    exact ⟨p, A.le (by decide)⟩
theorem rds_ate {k : Nat} (hk : k ≤ 80) : ∀ n, (∀ r t r', Rn k r → (rds n).sum r = some (t, r') → ∃ p, Ate r 1 t p r') ∧ (∀ l r t r', l ≤ 8 → Rn k r → (rds n).two l r = some (t, r') → (∃ p, Ate r l t p r') ∧ NoNext l r') ∧
    (∀ r t r', Rn k r → (rds n).ahead r = some (t, r') → ∃ p, Ate r 8 t p r') ∧ (∀ r t r', Rn k r → (rds n).plain r = some (t, r') → ∃ p, Ate r 9 t p r')
  | 0 => ⟨(fun _ _ _ _ e => by cases e), (fun _ _ _ _ _ _ e => by cases e), (fun _ _ _ _ e => by cases e), (fun _ _ _ _ e => by cases e)⟩
  | n + 1 => by
    obtain ⟨i1, i2, i3, i4⟩ := rds_ate hk n
    refine ⟨fun r t r' rn e => sum_ate (n := 0) i1 i2 rn e, fun l r t r' hl rn e => ?_, fun r t r' rn e => ahead_ate (n := 0) i3 i4 rn e, fun r t r' rn e => plain_ate (n := 0) hk i1 rn e⟩
    have e' : twoF (rds n).two (rds n).ahead l r = some (t, r') := e
    unfold twoF at e'
    cases h : (rds n).ahead r with
    | none => rw [h] at e'; cases e'
    | some o =>
      obtain ⟨u, r1⟩ := o
      rw [h] at e'
      dsimp only at e'
      obtain ⟨p, A⟩ := i3 _ _ _ rn h
      refine loop_ate k (fun l' r t r' a b c => i2 l' r t r' a b c) hl _ _ _ _ _ _ _ rn (A.le hl) (fun q z => ?_) e'
      have hq := tpk_op q (tpSign_mem z).1
      exact Nat.le_trans (pcl_mono (by omega)) A.pc
end Qb
end PySem
namespace PySem
namespace Qb
open PySem.W PySem.Calls PyProof.Rows L2
/-! # what is shown is read again -/
abbrev nmC (n : Nat) : L := cs (Str.ofString (toString n))
theorem nmC_eq (n : Nat) : nmC n = (Nat.toDigits 10 n).map Char.toNat := by
  show (Str.ofString (Nat.repr n)).cps.toList = _
  rw [PyProof.Rows.signs_ofString, Nat.repr_eq_ofList_toDigits, String.toList_ofList]
theorem nmC_lt {n : Nat} (h : n < 10) : nmC n = [48 + n] := by
  rw [nmC_eq, Nat.toDigits_of_lt_base h]
  exact congrArg (fun x => [x]) ((by decide : ∀ n < 10, (Nat.digitChar n).toNat = 48 + n) n h)
theorem nmC_ge {n : Nat} (h : 10 ≤ n) : nmC n = nmC (n / 10) ++ [48 + n % 10] := by
  rw [nmC_eq, nmC_eq, Nat.toDigits_eq_if (by decide), if_neg (by omega), List.map_append]
  exact congrArg (fun x => _ ++ [x]) ((by decide : ∀ n < 10, (Nat.digitChar n).toNat = 48 + n) (n % 10) (Nat.mod_lt _ (by decide)))
theorem dig_in {n : Nat} (h : n < 10) : 48 + n ∈ digC := (by decide : ∀ n < 10, 48 + n ∈ digC) n h
theorem digVal_snoc (l : L) (c : Nat) : digVal (l ++ [c]) = 10 * digVal l + (c - 48) := by
  unfold digVal
  rw [List.foldl_append]
  rfl
theorem nmC_ok (n : Nat) : nmC n ≠ [] ∧ (∀ c ∈ nmC n, c ∈ digC) ∧ (n ≠ 0 → (nmC n).head? ≠ some 48) ∧ digVal (nmC n) = n := by
  induction n using Nat.strongRecOn with
  | _ n ih =>
    by_cases h : n < 10
    · rw [nmC_lt h]
      refine ⟨by simp, fun c m => ?_, fun z e => ?_, ?_⟩
      · rw [List.mem_singleton.mp m]
        exact dig_in h
      · have : 48 + n = 48 := Option.some.inj e
        omega
      · show 10 * 0 + (48 + n - 48) = n
        omega
    · obtain ⟨a, b, c, d⟩ := ih (n / 10) (by omega)
      rw [nmC_ge (by omega)]
      refine ⟨by simp, fun x m => ?_, fun _ e => ?_, ?_⟩
      · rcases List.mem_append.mp m with m | m
        · exact b x m
        · rw [List.mem_singleton.mp m]
          exact dig_in (Nat.mod_lt _ (by decide))
      · refine c (by omega) ?_
        cases q : nmC (n / 10) with
        | nil => exact (a q).elim
        | cons x y => rw [q] at e; exact e
      · rw [digVal_snoc, d]
        omega
/-- what can't go on with a name or a number -/
def Tidy (r : L) : Prop := ∀ c l, r = c :: l → c ∉ namC
theorem tidy_no {r : L} (h : Tidy r) {S : L} (hs : ∀ c ∈ S, c ∈ namC) {l : L} (hl : ∀ c ∈ l, c ∈ S) : (l ++ r).takeWhile (fun c => decide (c ∈ S)) = l ∧ (l ++ r).dropWhile (fun c => decide (c ∈ S)) = r := by
  induction l with
  | nil =>
    cases r with
    | nil => exact ⟨rfl, rfl⟩
    | cons c r =>
      have n : ¬ decide (c ∈ S) = true := fun z => h c r rfl (hs c (of_decide_eq_true z))
      exact ⟨List.takeWhile_cons_of_neg n, List.dropWhile_cons_of_neg n⟩
  | cons c l ih =>
    have z := ih fun d m => hl d (.tail _ m)
    have p : decide (c ∈ S) = true := decide_eq_true (hl c (.head _))
    exact ⟨by rw [List.cons_append, List.takeWhile_cons_of_pos (p := fun c => decide (c ∈ S)) p, z.1], by rw [List.cons_append, List.dropWhile_cons_of_pos (p := fun c => decide (c ∈ S)) p, z.2]⟩
theorem rdDig_of {d r : L} (h : Tidy r) (hn : d ≠ []) (ha : ∀ c ∈ d, c ∈ digC) (h0 : d.head? = some 48 → d.length = 1) : rdDig (d ++ r) = some (d, r) := by
  have z := tidy_no h (S := digC) (by decide +kernel) ha
  unfold rdDig
  dsimp only
  rw [z.1, z.2, if_neg]
  rintro (e | ⟨e, f⟩)
  · exact hn e
  · have := h0 e
    omega
def okPl (w : L) : Prop := w = [35] ∨ w = [63] ∨ (w ≠ [] ∧ (∀ c ∈ w, c ∈ digC) ∧ (w.head? = some 48 → w.length = 1))
theorem rdPlc_of {w r : L} (h : Tidy r) (ho : okPl w) : rdPlc (w ++ r) = some (w, r) := by
  rcases ho with rfl | rfl | ⟨a, b, c⟩
  · rfl
  · rfl
  · have z := rdDig_of h a b c
    cases w with
    | nil => exact (a rfl).elim
    | cons x w =>
      have hx := b x (.head _)
      have n1 : x ≠ 35 := fun e => by rw [e] at hx; revert hx; decide
      have n2 : x ≠ 63 := fun e => by rw [e] at hx; revert hx; decide
      unfold rdPlc
      split
      · rename_i e; exact (n1 (List.cons.inj e).1).elim
      · rename_i e; exact (n2 (List.cons.inj e).1).elim
      · exact z
def Sm.nice : Sm → Prop
  | .num n => 0 ≤ n
  | .of w => isNm (cs w) = true ∨ (isNm (cs w) = false ∧ okPl (cs w))
  | .one s a => (s = "minus" ∨ s = "no") ∧ a.nice
  | .two s a b => isOp s = true ∧ a.nice ∧ b.nice
  | .three s a b c => s = "choose" ∧ a.nice ∧ b.nice ∧ c.nice
def Sm.ht : Sm → Nat
  | .num _ => 0
  | .of _ => 0
  | .one _ a => 1 + a.ht
  | .two _ a b => 1 + max a.ht b.ht
  | .three _ a b c => 1 + max a.ht (max b.ht c.ht)
theorem rank_ge {t : Sm} (h : t.nice) : 1 ≤ t.rank := by
  cases t with
  | num n => show 1 ≤ 9; decide
  | of w => show 1 ≤ 9; decide
  | one s a => show 1 ≤ 8; decide
  | two s a b =>
    obtain ⟨c, m⟩ := op_tpk h.1
    have := (tpk_op _ m).2.1
    show 1 ≤ rk s
    have : 2 ≤ rk s := this
    omega
  | three s a b c => exact Nat.le_refl _
/-- a sum's first sign is no blank -/
theorem nm_cons {l : L} (h : isNm l = true) : ∃ c r, l = c :: r ∧ c ∈ staC ∧ ∀ d ∈ r, d ∈ namC := by
  unfold isNm at h
  cases l with
  | nil => cases h
  | cons c r =>
    have h' : (decide (c ∈ staC) && r.all fun d => decide (d ∈ namC)) = true := h
    rw [Bool.and_eq_true, List.all_eq_true] at h'
    exact ⟨c, r, rfl, of_decide_eq_true h'.1, fun d m => of_decide_eq_true (h'.2 d m)⟩
def First (l : L) : Prop := ∃ c r, l = c :: r ∧ c ∉ wsC
theorem first_app {l r : L} (h : First l) : First (l ++ r) := by
  obtain ⟨c, q, rfl, n⟩ := h
  exact ⟨c, q ++ r, rfl, n⟩
theorem first_par {b : Bool} {l : L} (h : First l) : First (par b l) := by
  cases b
  · exact h
  · exact ⟨40, l ++ [41], rfl, by decide⟩
theorem first_shw : ∀ {t : Sm}, t.nice → First t.shw
  | .num n, h => by
    obtain ⟨m, rfl⟩ : ∃ m : Nat, n = m := ⟨n.toNat, (Int.toNat_of_nonneg h).symm⟩
    obtain ⟨a, b, _⟩ := nmC_ok m
    have e : (Sm.num (m : Int)).shw = nmC m := rfl
    rw [e]
    cases q : nmC m with
    | nil => exact (a q).elim
    | cons c r => exact ⟨c, r, rfl, (by decide : ∀ c ∈ digC, c ∉ wsC) c (b c (by rw [q]; exact .head _))⟩
  | .of w, h => by
    show First (if isNm (cs w) then cs w else 36 :: cs w)
    cases e : isNm (cs w) with
    | true =>
      obtain ⟨c, r, q, m, _⟩ := nm_cons e
      rw [if_pos rfl, q]
      exact ⟨c, r, rfl, (by decide +kernel : ∀ c ∈ staC, c ∉ wsC) c m⟩
    | false =>
      rw [if_neg (by decide)]
      exact ⟨36, cs w, rfl, by decide⟩
  | .one s a, h => by
    show First (aheadC s ++ _)
    unfold aheadC
    split
    · exact ⟨33, _, rfl, by decide⟩
    · exact ⟨45, _, rfl, by decide⟩
  | .two s a b, h => first_app (first_par (first_shw h.2.1))
  | .three s a b c, h => first_app (first_par (first_shw h.2.1))
theorem spc_first {l : L} (h : First l) : spc l = l := by
  obtain ⟨c, r, rfl, n⟩ := h
  unfold spc
  rw [List.dropWhile_cons_of_neg (by simpa using n)]
theorem spc_sp (l : L) : spc (32 :: l) = spc l := by
  unfold spc
  rw [List.dropWhile_cons_of_pos (by decide)]
def LoopTo (n l : Nat) (t : Sm) (r : L) (o : Sm × L) : Prop := ∃ m, m ≤ r.length + 1 ∧ loopW (rds n).two m l t r = some o
theorem loop_more {two : Nat → Rd} : ∀ {m l t r o}, loopW two m l t r = some o → loopW two (m + 1) l t r = some o
  | 0, l, t, r, o, h => by cases h
  | m + 1, l, t, r, o, h => by
    unfold loopW at h ⊢
    cases e : tpSign r with
    | none => rw [e] at h; exact h
    | some p =>
      rw [e] at h
      dsimp only at h ⊢
      by_cases c : l ≤ rk p.1
      · rw [if_pos c] at h ⊢
        cases q : two (rk p.1 + 1) (r.drop p.2.length) with
        | none => rw [q] at h; cases h
        | some x =>
          obtain ⟨u, r2⟩ := x
          rw [q] at h
          dsimp only at h ⊢
          exact loop_more h
      · rw [if_neg c] at h ⊢
        exact h
theorem loop_most {two : Nat → Rd} {m l : Nat} {t : Sm} {r : L} {o : Sm × L} (h : loopW two m l t r = some o) : ∀ {k}, m ≤ k → loopW two k l t r = some o := by
  intro k hk
  induction k with
  | zero =>
    obtain rfl : m = 0 := by omega
    exact h
  | succ k ih =>
    by_cases c : m = k + 1
    · rw [← c]; exact h
    · exact loop_more (ih (by omega))
theorem loop_stop {n l : Nat} {t : Sm} {r : L} (h : NoNext l r) : LoopTo n l t r (t, r) := by
  refine ⟨1, by omega, ?_⟩
  unfold loopW
  cases e : tpSign r with
  | none => rfl
  | some p =>
    dsimp only
    rw [if_neg (by have := h p e; omega)]
theorem two_of {n l : Nat} {t : Sm} {r r1 : L} {o : Sm × L} (h : (rds n).ahead r = some (t, r1)) (k : LoopTo n l t r1 o) : (rds (n + 1)).two l r = some o := by
  obtain ⟨m, hm, e⟩ := k
  show twoF (rds n).two (rds n).ahead l r = some o
  unfold twoF
  rw [h]
  exact loop_most e hm
theorem ahead_sp {n : Nat} (r : L) : (rds (n + 1)).ahead (32 :: r) = (rds (n + 1)).ahead r := by
  show aheadF _ _ (32 :: r) = aheadF _ _ r
  unfold aheadF
  rw [spc_sp]
theorem two_sp {n l : Nat} (r : L) : (rds (n + 2)).two l (32 :: r) = (rds (n + 2)).two l r := by
  show twoF _ _ l (32 :: r) = twoF _ _ l r
  unfold twoF
  rw [ahead_sp]
theorem sum_sp {n : Nat} (r : L) : (rds (n + 3)).sum (32 :: r) = (rds (n + 3)).sum r := by
  show sumF _ _ (32 :: r) = sumF _ _ r
  unfold sumF
  rw [two_sp]
theorem ahead_plain {n : Nat} {r r2 : L} {t : Sm} (hf : First r) (h1 : r.head? ≠ some 45) (h2 : r.head? ≠ some 33) (h : (rds n).plain r = some (t, r2)) : (rds (n + 1)).ahead r = some (t, spc r2) := by
  show aheadF (rds n).ahead (rds n).plain r = _
  unfold aheadF
  rw [spc_first hf]
  obtain ⟨c, q, rfl, _⟩ := hf
  split
  · rename_i e
    cases e
    exact (h1 rfl).elim
  · rename_i e
    cases e
    exact (h2 rfl).elim
  · rw [h]
theorem tp_no {r : L} (h : ∀ c l, r = c :: l → c ∉ [38, 124, 60, 62, 61, 33, 42, 47, 94, 43, 45]) : tpSign r = none := by
  unfold tpSign
  rw [List.find?_eq_none]
  intro p hp z
  obtain ⟨r', e⟩ := List.isPrefixOf_iff_prefix.mp z
  have key : ∀ p ∈ tpk, ∃ c ∈ [38, 124, 60, 62, 61, 33, 42, 47, 94, 43, 45], p.2.head? = some c := by decide +kernel
  obtain ⟨c, hc, e2⟩ := key p hp
  cases q : p.2 with
  | nil => rw [q] at e2; cases e2
  | cons d l =>
    rw [q] at e2 e
    obtain rfl := Option.some.inj e2
    exact h d (l ++ r') e.symm hc
theorem tp_op {s : Str} {c : L} (h : (s, c) ∈ tpk) (r : L) : tpSign (c ++ 32 :: r) = some (s, c) := by
  unfold tpk at h
  simp only [List.mem_cons, List.not_mem_nil, or_false, Prod.mk.injEq] at h
  rcases h with ⟨rfl, rfl⟩ | ⟨rfl, rfl⟩ | ⟨rfl, rfl⟩ | ⟨rfl, rfl⟩ | ⟨rfl, rfl⟩ | ⟨rfl, rfl⟩ | ⟨rfl, rfl⟩ | ⟨rfl, rfl⟩ | ⟨rfl, rfl⟩ | ⟨rfl, rfl⟩ | ⟨rfl, rfl⟩ | ⟨rfl, rfl⟩ | ⟨rfl, rfl⟩ <;> rfl
theorem plainF_40 {sum : Rd} {r1 r2 : L} {t : Sm} (h : sum r1 = some (t, 41 :: r2)) : plainF sum (40 :: r1) = some (t, r2) := by
  show (match sum r1 with
    | some (t, 41 :: r2) => some (t, r2)
    | _ => none) = _
  rw [h]
  rfl
theorem plainF_36 {sum : Rd} {r1 r2 w : L} (h : rdPlc r1 = some (w, r2)) : plainF sum (36 :: r1) = some (.of (st w), r2) := by
  show (match rdPlc r1 with
    | none => none
    | some (w, r2) => some (Sm.of (st w), r2)) = _
  rw [h]
theorem aheadF_45 {ahead plain : Rd} {r r1 r2 : L} {t : Sm} (hs : spc r = 45 :: r1) (h : ahead r1 = some (t, r2)) : aheadF ahead plain r = some (.one "minus" t, r2) := by
  unfold aheadF
  rw [hs]
  show (match ahead r1 with
    | none => none
    | some (t, r2) => some (Sm.one "minus" t, r2)) = _
  rw [h]
theorem aheadF_33 {ahead plain : Rd} {r r1 r2 : L} {t : Sm} (hs : spc r = 33 :: r1) (h : ahead r1 = some (t, r2)) : aheadF ahead plain r = some (.one "no" t, r2) := by
  unfold aheadF
  rw [hs]
  show (match ahead r1 with
    | none => none
    | some (t, r2) => some (Sm.one "no" t, r2)) = _
  rw [h]
theorem sumF_63 {sum : Rd} {two : Nat → Rd} {r r2 r3 r4 : L} {t a b : Sm} (h1 : two 2 r = some (t, 63 :: r2)) (h2 : sum r2 = some (a, 58 :: r3)) (h3 : sum r3 = some (b, r4)) : sumF sum two r = some (.three "choose" t a b, r4) := by
  unfold sumF
  rw [h1]
  show (match sum r2 with
    | some (a, 58 :: r3) => (match sum r3 with
      | none => none
      | some (b, r4) => some (Sm.three "choose" t a b, r4))
    | _ => none) = _
  rw [h2]
  show (match sum r3 with
      | none => none
      | some (b, r4) => some (Sm.three "choose" t a b, r4)) = _
  rw [h3]
structure Back (t : Sm) : Prop where
  A : ∀ n l rest o, 6 * t.ht + 6 ≤ n → l ≤ t.rank → 2 ≤ t.rank → Tidy rest → (∀ p, tpSign (spc rest) = some p → rk p.1 ≤ t.rank) → LoopTo n l t (spc rest) o → (rds (n + 1)).two l (t.shw ++ rest) = some o
  B : ∀ n rest, 6 * t.ht + 6 ≤ n → Tidy rest → tpSign (spc rest) = none → (spc rest).head? ≠ some 63 → (rds (n + 2)).sum (t.shw ++ rest) = some (t, spc rest)
  C : ∀ n rest, 6 * t.ht + 6 ≤ n → 8 ≤ t.rank → Tidy rest → (rds n).ahead (t.shw ++ rest) = some (t, spc rest)
theorem sum_two {n : Nat} {t : Sm} {r r1 : L} (h : (rds n).two 2 r = some (t, r1)) (h1 : r1.head? ≠ some 63) : (rds (n + 1)).sum r = some (t, r1) := by
  show sumF _ _ r = _
  unfold sumF
  split
  · rename_i e
    rw [h] at e
    cases e
  · rename_i e
    rw [h] at e
    cases e
    exact (h1 rfl).elim
  · rename_i e
    rw [h] at e
    cases e
    rfl
theorem back_BA {t : Sm} (h2 : 2 ≤ t.rank) (hA : ∀ n l rest o, 6 * t.ht + 6 ≤ n → l ≤ t.rank → 2 ≤ t.rank → Tidy rest → (∀ p, tpSign (spc rest) = some p → rk p.1 ≤ t.rank) → LoopTo n l t (spc rest) o → (rds (n + 1)).two l (t.shw ++ rest) = some o) :
    ∀ n rest, 6 * t.ht + 6 ≤ n → Tidy rest → tpSign (spc rest) = none → (spc rest).head? ≠ some 63 → (rds (n + 2)).sum (t.shw ++ rest) = some (t, spc rest) := fun n rest hn ti h h63 =>
  sum_two (hA n 2 rest _ hn h2 h2 ti (fun p e => by rw [h] at e; cases e) (loop_stop fun p e => by rw [h] at e; cases e)) h63
theorem tidy_41 {r : L} : Tidy (41 :: r) := fun c l e => by
  cases e
  decide +kernel
theorem tidy_32 {r : L} : Tidy (32 :: r) := fun c l e => by
  cases e
  decide +kernel
theorem tidy_nil : Tidy [] := fun c l e => by cases e
theorem spc_41 {r : L} : spc (41 :: r) = 41 :: r := spc_first ⟨41, r, rfl, by decide⟩
theorem paren_plain {a : Sm} (b : Back a) {n : Nat} (hn : 6 * a.ht + 6 ≤ n) (rest : L) : (rds (n + 3)).plain (40 :: (a.shw ++ 41 :: rest)) = some (a, rest) := by
  refine plainF_40 ?_
  rw [b.B n (41 :: rest) hn tidy_41 (by rw [spc_41]; exact tp_no fun c l e => by cases e; decide) (by rw [spc_41]; simp), spc_41]
theorem paren_ahead {a : Sm} (b : Back a) {n : Nat} (hn : 6 * a.ht + 6 ≤ n) (rest : L) : (rds (n + 4)).ahead (40 :: (a.shw ++ 41 :: rest)) = some (a, spc rest) :=
  ahead_plain ⟨40, _, rfl, by decide⟩ (by simp) (by simp) (paren_plain b hn rest)
theorem par_app (c : Bool) (l r : L) : par c l ++ r = if c = true then 40 :: (l ++ 41 :: r) else l ++ r := by
  cases c
  · rfl
  · show (40 :: (l ++ [41])) ++ r = _
    simp
theorem part_two {a : Sm} (b : Back a) {n l l0 : Nat} {rest : L} {o : Sm × L} (hn : 6 * a.ht + 10 ≤ n) (hl : l ≤ l0) (h2 : 2 ≤ l0) (ti : Tidy rest) (nx : ∀ p, tpSign (spc rest) = some p → rk p.1 ≤ l0) (k : LoopTo n l a (spc rest) o) :
    (rds (n + 1)).two l (par (decide (a.rank < l0)) a.shw ++ rest) = some o := by
  rw [par_app]
  by_cases c : a.rank < l0
  · rw [if_pos (decide_eq_true c)]
    obtain ⟨m, rfl⟩ : ∃ m, n = m + 4 := ⟨n - 4, by omega⟩
    exact two_of (paren_ahead b (by omega) rest) k
  · rw [if_neg (by simpa using c)]
    exact b.A n l rest o (by omega) (by omega) (by omega) ti (fun p e => Nat.le_trans (nx p e) (by omega)) k
theorem part_ahead {a : Sm} (b : Back a) {n : Nat} {rest : L} (hn : 6 * a.ht + 10 ≤ n) (ti : Tidy rest) : (rds n).ahead (par (decide (a.rank < 8)) a.shw ++ rest) = some (a, spc rest) := by
  rw [par_app]
  by_cases c : a.rank < 8
  · rw [if_pos (decide_eq_true c)]
    obtain ⟨m, rfl⟩ : ∃ m, n = m + 4 := ⟨n - 4, by omega⟩
    exact paren_ahead b (by omega) rest
  · rw [if_neg (by simpa using c)]
    exact b.C n rest (by omega) (by omega) ti
theorem back_C {t : Sm} (h : 8 ≤ t.rank) (hC : ∀ n rest, 6 * t.ht + 6 ≤ n → 8 ≤ t.rank → Tidy rest → (rds n).ahead (t.shw ++ rest) = some (t, spc rest)) : Back t := by
  have hA : ∀ n l rest o, 6 * t.ht + 6 ≤ n → l ≤ t.rank → 2 ≤ t.rank → Tidy rest → (∀ p, tpSign (spc rest) = some p → rk p.1 ≤ t.rank) → LoopTo n l t (spc rest) o → (rds (n + 1)).two l (t.shw ++ rest) = some o :=
    fun n l rest o hn _ _ ti _ k => two_of (hC n rest hn h ti) k
  exact ⟨hA, back_BA (by omega) hA, hC⟩
theorem leaf_back {t : Sm} (hr : t.rank = 9) (hf : First t.shw) (h1 : t.shw.head? ≠ some 45) (h2 : t.shw.head? ≠ some 33) (hp : ∀ n rest, Tidy rest → (rds (n + 1)).plain (t.shw ++ rest) = some (t, rest)) : Back t := by
  refine back_C (by omega) fun n rest hn _ ti => ?_
  obtain ⟨m, rfl⟩ : ∃ m, n = m + 2 := ⟨n - 2, by omega⟩
  have hd : ∀ x, t.shw.head? ≠ some x → (t.shw ++ rest).head? ≠ some x := fun x z => by
    obtain ⟨c, q, e, _⟩ := hf
    rw [e] at z ⊢
    exact z
  exact ahead_plain (first_app hf) (hd 45 h1) (hd 33 h2) (hp m rest ti)
theorem sta_nam : ∀ c ∈ staC, c ∈ namC := by decide +kernel
theorem plain_dig {n : Nat} {d rest : L} (ti : Tidy rest) (hn : d ≠ []) (ha : ∀ c ∈ d, c ∈ digC) (h0 : d.head? = some 48 → d.length = 1) : (rds (n + 1)).plain (d ++ rest) = some (.num (digVal d), rest) := by
  have z := rdDig_of ti hn ha h0
  cases d with
  | nil => exact (hn rfl).elim
  | cons x d =>
    have hx := ha x (.head _)
    have n1 : x ≠ 40 := fun e => by rw [e] at hx; revert hx; decide
    have n2 : x ≠ 36 := fun e => by rw [e] at hx; revert hx; decide
    have n3 : x ∉ staC := (by decide +kernel : ∀ c ∈ digC, c ∉ staC) x hx
    show plainF _ (x :: (d ++ rest)) = _
    unfold plainF
    split
    · rename_i e; exact (n1 (List.cons.inj e).1).elim
    · rename_i e; exact (n2 (List.cons.inj e).1).elim
    · rename_i e
      cases e
      rw [if_neg n3]
      have z' : rdDig (x :: (d ++ rest)) = some (x :: d, rest) := z
      rw [z']
    · rename_i e; cases e
theorem back : ∀ {t : Sm}, t.nice → Back t
  | .num n, h => by
    obtain ⟨m, rfl⟩ : ∃ m : Nat, n = m := ⟨n.toNat, (Int.toNat_of_nonneg h).symm⟩
    obtain ⟨a, b, c, d⟩ := nmC_ok m
    have e : (Sm.num (m : Int)).shw = nmC m := rfl
    have c' : (nmC m).head? = some 48 → (nmC m).length = 1 := fun z => by
      by_cases z0 : m = 0
      · subst z0
        rw [nmC_lt (by decide)]
        rfl
      · exact (c z0 z).elim
    have hd : ∀ x, x ∉ digC → (Sm.num (m : Int)).shw.head? ≠ some x := fun x hx z => by
      rw [e] at z
      exact hx (b x (List.mem_of_head? z))
    refine leaf_back rfl (first_shw (t := .num m) h) (hd 45 (by decide)) (hd 33 (by decide)) fun n rest ti => ?_
    rw [e, plain_dig ti a b c', d]
  | .of w, h => by
    have es : (Sm.of w).shw = if isNm (cs w) then cs w else 36 :: cs w := rfl
    rcases h with h | ⟨h, hp⟩
    · rw [h, if_pos rfl] at es
      obtain ⟨c, r, q, m, al⟩ := nm_cons h
      have n1 : ∀ x, x ∉ staC → (Sm.of w).shw.head? ≠ some x := fun x hx z => by
        rw [es, q] at z
        exact hx (by rw [← Option.some.inj z]; exact m)
      refine leaf_back rfl (by rw [es, q]; exact ⟨c, r, rfl, (by decide +kernel : ∀ c ∈ staC, c ∉ wsC) c m⟩) (n1 45 (by decide +kernel)) (n1 33 (by decide +kernel)) fun n rest ti => ?_
      rw [es]
      have t2 := tidy_no ti (S := namC) (fun _ z => z) (l := cs w) (by rw [q]; exact fun d md => by rcases List.mem_cons.mp md with rfl | md; exact sta_nam _ m; exact al d md)
      rw [q] at t2
      show plainF _ (cs w ++ rest) = _
      rw [q]
      unfold plainF
      have k1 : c ≠ 40 := fun e => by rw [e] at m; revert m; decide +kernel
      have k2 : c ≠ 36 := fun e => by rw [e] at m; revert m; decide +kernel
      rw [List.cons_append] at t2 ⊢
      split
      · rename_i e; exact (k1 (List.cons.inj e).1).elim
      · rename_i e; exact (k2 (List.cons.inj e).1).elim
      · rename_i e
        cases e
        rw [if_pos m, t2.1, t2.2, ← q, st_cs]
      · rename_i e; cases e
    · rw [h, if_neg (by decide)] at es
      refine leaf_back rfl (by rw [es]; exact ⟨36, _, rfl, by decide⟩) (by rw [es]; simp) (by rw [es]; simp) fun n rest ti => ?_
      rw [es]
      show plainF (rds n).sum (36 :: (cs w ++ rest)) = _
      rw [plainF_36 (rdPlc_of ti hp), st_cs]
  | .one s a, h => by
    have ba := back h.2
    refine back_C (Nat.le_refl _) fun n rest hn _ ti => ?_
    have hh : (Sm.one s a).ht = 1 + a.ht := rfl
    obtain ⟨m, rfl⟩ : ∃ m, n = m + 1 := ⟨n - 1, by omega⟩
    have z := part_ahead ba (n := m) (rest := rest) (by omega) ti
    have es : (Sm.one s a).shw = aheadC s ++ par (decide (a.rank < 8)) a.shw := rfl
    rw [es]
    rcases h.1 with rfl | rfl
    · exact aheadF_45 (plain := (rds m).plain) (spc_first ⟨45, _, rfl, by decide⟩) z
    · exact aheadF_33 (plain := (rds m).plain) (spc_first ⟨33, _, rfl, by decide⟩) z
  | .two s a b, h => by
    have ba := back h.2.1
    have bb := back h.2.2
    obtain ⟨c, mc⟩ := op_tpk h.1
    have hk : 2 ≤ rk s ∧ rk s ≤ 7 := (tpk_op _ mc).2
    have ec : cs s = c := tpk_cs _ mc
    have hh : (Sm.two s a b).ht = 1 + max a.ht b.ht := rfl
    have hA : ∀ n l rest o, 6 * (Sm.two s a b).ht + 6 ≤ n → l ≤ (Sm.two s a b).rank → 2 ≤ (Sm.two s a b).rank → Tidy rest → (∀ p, tpSign (spc rest) = some p → rk p.1 ≤ (Sm.two s a b).rank) → LoopTo n l (.two s a b) (spc rest) o → (rds (n + 1)).two l ((Sm.two s a b).shw ++ rest) = some o := by
      intro n l rest o hn hl h2 ti nx ⟨m, hm, em⟩
      have hl' : l ≤ rk s := hl
      have es : (Sm.two s a b).shw ++ rest = par (decide (a.rank < rk s)) a.shw ++ (32 :: (c ++ 32 :: (par (decide (b.rank < rk s + 1)) b.shw ++ rest))) := by
        show (par (decide (a.rank < rk s)) a.shw ++ 32 :: (cs s ++ 32 :: par (decide (b.rank < rk s + 1)) b.shw)) ++ rest = _
        rw [ec]
        simp
      have fc : First (c ++ 32 :: (par (decide (b.rank < rk s + 1)) b.shw ++ rest)) := first_app ((by
        have key : ∀ p ∈ tpk, ∃ x ∈ [38, 124, 60, 62, 61, 33, 42, 47, 94, 43, 45], p.2.head? = some x := by decide +kernel
        obtain ⟨x, hx, e2⟩ := key _ mc
        have e2 : c.head? = some x := e2
        cases c with
        | nil => cases e2
        | cons d q =>
          obtain rfl := Option.some.inj e2
          exact ⟨d, q, rfl, (by decide : ∀ c ∈ [38, 124, 60, 62, 61, 33, 42, 47, 94, 43, 45], c ∉ wsC) d hx⟩))
      have e1 : spc (32 :: (c ++ 32 :: (par (decide (b.rank < rk s + 1)) b.shw ++ rest))) = c ++ 32 :: (par (decide (b.rank < rk s + 1)) b.shw ++ rest) := by rw [spc_sp, spc_first fc]
      have tp := tp_op mc (par (decide (b.rank < rk s + 1)) b.shw ++ rest)
      rw [es]
      refine part_two ba (by omega) hl' hk.1 tidy_32 (fun p e => by rw [e1, tp] at e; cases e; exact Nat.le_refl _) ?_
      rw [e1]
      obtain ⟨n', rfl⟩ : ∃ n', n = n' + 2 := ⟨n - 2, by omega⟩
      have second : (rds (n' + 2)).two (rk s + 1) (32 :: (par (decide (b.rank < rk s + 1)) b.shw ++ rest)) = some (b, spc rest) := by
        rw [two_sp]
        refine part_two bb (n := n' + 1) (by omega) (Nat.le_refl _) (by omega) ti (fun p e => Nat.le_succ_of_le (nx p e)) (loop_stop fun p e => Nat.lt_succ_of_le (nx p e))
      refine ⟨m + 1, ?_, ?_⟩
      · have : (spc rest).length ≤ rest.length := by
          obtain ⟨p, e⟩ := spc_pre rest
          have z := congrArg List.length e
          rw [List.length_append] at z
          omega
        have : 1 ≤ c.length := (tpk_w2 _ mc).2
        simp only [List.length_append, List.length_cons]
        omega
      · unfold loopW
        rw [tp]
        dsimp only
        rw [if_pos hl', show (c ++ 32 :: (par (decide (b.rank < rk s + 1)) b.shw ++ rest)).drop c.length = 32 :: (par (decide (b.rank < rk s + 1)) b.shw ++ rest) by simp, second]
        exact em
    exact ⟨hA, back_BA hk.1 hA, fun n rest _ h8 _ => by have : 8 ≤ rk s := h8; omega⟩
  | .three s a b c, h => by
    obtain ⟨rfl, ha, hb, hc⟩ := h
    have ba := back ha
    have bb := back hb
    have bc := back hc
    have hh : (Sm.three "choose" a b c).ht = 1 + max a.ht (max b.ht c.ht) := rfl
    refine ⟨fun n l rest o _ _ h2 => by have : 2 ≤ 1 := h2; omega, fun n rest hn ti tn h63 => ?_, fun n rest _ h8 => by have : 8 ≤ 1 := h8; omega⟩
    have rc : decide (c.rank < 1) = false := by
      have := rank_ge hc
      exact decide_eq_false (by omega)
    have es : (Sm.three "choose" a b c).shw ++ rest = par (decide (a.rank < 2)) a.shw ++ (32 :: 63 :: 32 :: (b.shw ++ (32 :: 58 :: 32 :: (c.shw ++ rest)))) := by
      show (par (decide (a.rank < 2)) a.shw ++ 32 :: 63 :: 32 :: (b.shw ++ 32 :: 58 :: 32 :: par (decide (c.rank < 1)) c.shw)) ++ rest = _
      rw [rc]
      simp [par]
    have s63 : ∀ r, spc (32 :: 63 :: r) = 63 :: r := fun r => by rw [spc_sp, spc_first ⟨63, r, rfl, by decide⟩]
    have s58 : ∀ r, spc (32 :: 58 :: r) = 58 :: r := fun r => by rw [spc_sp, spc_first ⟨58, r, rfl, by decide⟩]
    have t63 : ∀ r, tpSign (63 :: r) = none := fun r => tp_no fun c l e => by cases e; decide
    have t58 : ∀ r, tpSign (58 :: r) = none := fun r => tp_no fun c l e => by cases e; decide
    rw [es]
    have h1 := part_two ba (n := n) (l := 2) (l0 := 2) (rest := 32 :: 63 :: 32 :: (b.shw ++ (32 :: 58 :: 32 :: (c.shw ++ rest)))) (by omega) (Nat.le_refl _) (Nat.le_refl _) tidy_32 (fun p e => by rw [s63, t63] at e; cases e) (loop_stop fun p e => by rw [s63, t63] at e; cases e)
    obtain ⟨n', rfl⟩ : ∃ n', n = n' + 2 := ⟨n - 2, by omega⟩
    have h2 : (rds (n' + 3)).sum (32 :: (b.shw ++ (32 :: 58 :: 32 :: (c.shw ++ rest)))) = some (b, 58 :: 32 :: (c.shw ++ rest)) := by
      rw [sum_sp, bb.B (n' + 1) _ (by omega) tidy_32 (by rw [s58, t58]) (by rw [s58]; simp), s58]
    have h3 : (rds (n' + 3)).sum (32 :: (c.shw ++ rest)) = some (c, spc rest) := by
      rw [sum_sp, bc.B (n' + 1) _ (by omega) ti tn h63]
    rw [s63] at h1
    exact sumF_63 h1 h2 h3
end Qb
end PySem
namespace PySem
namespace Qb
open PySem.W PySem.Calls PyProof.Rows L2
def top (i : Nat) : Stmt := PySem.Challenge.pw_quotedback_k18_names_steady_and_no_sums.main.body.getD i (.Pass ⟨0, 0, 0, 0⟩)
/-- names of the machine that the text's top leaves as they are -/
structure Blt (mg : Str → Option Value) : Prop where
  abs : mg "abs" = none
  int : mg "int" = none
  len : mg "len" = none
  range : mg "range" = none
  isi : mg "isinstance" = none
  all : mg "all" = none
  str : mg "str" = none
  repr : mg "repr" = none
  dict : mg "dict" = none
  list : mg "list" = none
  tuple : mg "tuple" = none
  bool : mg "bool" = none
  max : mg "max" = none
  min : mg "min" = none
  sum : mg "sum" = none
  reversed : mg "reversed" = none
  ve : mg "ValueError" = none
def staS : Str := "abcdefghijklmnopqrstuvwxyzABCDEFGHIJKLMNOPQRSTUVWXYZ_"
def namS : Str := "abcdefghijklmnopqrstuvwxyzABCDEFGHIJKLMNOPQRSTUVWXYZ_0123456789"
def digS : Str := "0123456789"
theorem cs_sta : cs staS = staC := rfl
theorem cs_nam : cs namS = namC := rfl
theorem cs_dig : cs digS = digC := by decide +kernel
def plW : List Str := ["0", "#", "?", "@", "*"]
def alW : List Str := ["@", "*"]
def tpW : List Str := ["&&", "||", "<=", ">=", "==", "!=", "<", ">", "*", "/", "^", "+", "-"]
theorem tpW_eq : tpW = tpk.map (·.1) := by decide +kernel
/-- what the text's top says of its written things -/
structure Wrt (K : Frag) (w : World) (mg : Str → Option Value) : Prop where
  sta : ∃ t, mg "NAME_STARTS" = some (.str staS t)
  nam : ∃ t, mg "NAME_SIGNS" = some (.str namS t)
  dig : ∃ t, mg "DIGITS" = some (.str digS t)
  cr : ∃ t, mg "CHOOSE_RANK" = some (.int 1 t)
  mf : ∃ t, mg "MOST_FIGURES" = some (.int 40 t)
  tg : ∃ t, mg "TOO_GREAT" = some (.int (10 ^ 40) t)
  pls : ∃ p, mg "PLACE_SIGNS" = some (.ref p) ∧ ∀ H, SqT K H p (plW.map V.str)
  alls : ∃ p, mg "ALL_ARGUMENTS" = some (.ref p) ∧ ∀ H, SqT K H p (alW.map V.str)
  tps : ∃ p, mg "TWO_PART_SIGNS" = some (.ref p) ∧ ∀ H, SqT K H p (tpW.map V.str)
  rks : ∃ (d : Addr) (es : Array DictEntry) (n : Nat), mg "RANKS" = some (.ref d) ∧ KDict K w d es n ∧ ∀ s : Str, (isOp s = false → PySem.W.nsIn K d s = some none) ∧ (isOp s = true → ∃ t, PySem.W.nsIn K d s = some (some (.int (rk s : Nat) t)))
theorem glob_int {X : Cx} {x : Str} {c : Int} {pos : Pos} (hg : Gl X x) (hm : ∃ t, X.mg x = some (.int c t)) (hd : (x == ("__debug__" : Str)) = false := by decide) : PE X (.Name x pos) (tC (.int c)) := by
  obtain ⟨t, e⟩ := hm
  exact pe_glob hg e ⟨t, rfl⟩ hd
theorem small_line {n : Nat} (h : n ≤ 1000000) : n ≤ sizeLine := by
  rw [sizeLine_eq]
  omega
/-- a def that may raise -/
def HasX (P : Program) (w : World) (K : Frag) (mg : Str → Option Value) (base : Heap) (k : Nat) (x : Str) (ps : List Str) (sp : Sp) : Prop :=
  ∃ (f : Addr) (fd : FuncData), mg x = some (.ref f) ∧ PySem.W.keepIn K (.ref f) = true ∧ Binds K fd ps [] ∧ FnOk P w K mg base (L2.CX P w) k f fd ps sp
theorem hasX_of {P : Program} {w : World} {K : Frag} {mg : Str → Option Value} {base : Heap} {k : Nat} {x qual : Str} {st : Stmt} {f : Addr} {fd : FuncData} {ps : List Str} {sp : Sp} (F : Fun K x qual st f fd) (g : mg x = some (.ref f)) (b : Binds K fd ps []) (o : FnOk P w K mg base (L2.CX P w) k f fd ps sp) : HasX P w K mg base k x ps sp := ⟨f, fd, g, F.kp, b, o⟩
def HasM (P : Program) (w : World) (K : Frag) (mg : Str → Option Value) (base : Heap) (C : Addr) (k : Nat) (x : Str) (ps : List Str) (sp : Sp) : Prop :=
  ∃ (f : Addr) (fd : FuncData), Meth K C x f ∧ Binds K fd ps [] ∧ FnOk P w K mg base CX0 k f fd ps sp
def HasMX (P : Program) (w : World) (K : Frag) (mg : Str → Option Value) (base : Heap) (C : Addr) (k : Nat) (x : Str) (ps : List Str) (sp : Sp) : Prop :=
  ∃ (f : Addr) (fd : FuncData), Meth K C x f ∧ Binds K fd ps [] ∧ FnOk P w K mg base (L2.CX P w) k f fd ps sp
theorem pass_of {X : Cx} {E : XK} (tk : Takes X (fun cls d _ H => E cls d H)) : Passes (L2.CX X.prog X.w) X E := fun pins σ H s e s' I h => passAt tk σ pins H s e s' I h
/-! # names and places -/
def startS : Str := staS
def nameS : Str := namS
/-- the longest name at the beginning -/
def nameLen : List Nat → Nat
  | [] => 0
  | c :: r => if c ∈ cs startS then 1 + (r.takeWhile fun d => decide (d ∈ cs nameS)).length else 0
def isNameB (l : List Nat) : Bool := !l.isEmpty && nameLen l == l.length
def big : Nat := 100000
/-- a text in, a value out, nothing made that is kept -/
def spTxt (g : Str → V) : Sp := fun vs H Q _ => ∃ x : Str, vs = [.str x] ∧ x.length ≤ big ∧ ∀ H', Same H H' → Q (g x) H'
def isPlB (l : L) : Bool := inV (.str (st l)) (plW.map V.str) || (!l.isEmpty && l.head? != some 48 && l.all fun d => decide (d ∈ digC))
abbrev spNl : Sp := spTxt fun x => .int (nameLen (cs x))
abbrev spNn : Sp := spTxt fun x => .bl (isNameB (cs x))
abbrev spIp : Sp := spTxt fun x => .bl (isPlB (cs x))
section
variable {P : Program} {w : World} {K : Frag} {mg : Str → Option Value} {base : Heap}
theorem big_line {x : Str} (h : x.length ≤ big) : x.length ≤ sizeLine := by
  rw [sizeLine_eq]
  unfold big at h
  omega
theorem tw_le {p : Nat → Bool} : ∀ (r : List Nat), (r.takeWhile p).length ≤ r.length
  | [] => Nat.le_refl _
  | c :: r => by
    by_cases h : p c = true
    · rw [List.takeWhile_cons_of_pos h, List.length_cons, List.length_cons]
      exact Nat.succ_le_succ (tw_le r)
    · rw [List.takeWhile_cons_of_neg h]
      exact Nat.zero_le _
theorem tw_on {p : Nat → Bool} : ∀ (r : List Nat) (k : Nat) (c : Nat), r[k]? = some c → k ≤ (r.takeWhile p).length → p c = true → k + 1 ≤ (r.takeWhile p).length
  | [], k, c, h, _, _ => by cases h
  | d :: r, 0, c, h, _, hp => by
    have e : d = c := Option.some.inj h
    subst e
    rw [List.takeWhile_cons_of_pos hp, List.length_cons]
    omega
  | d :: r, k + 1, c, h, hk, hp => by
    by_cases hd : p d = true
    · rw [List.takeWhile_cons_of_pos hd, List.length_cons] at hk ⊢
      exact Nat.succ_le_succ (tw_on r k c h (by omega) hp)
    · rw [List.takeWhile_cons_of_neg hd] at hk
      exact absurd hk (by simp)
theorem tw_off {p : Nat → Bool} : ∀ (r : List Nat) (k : Nat), k ≤ (r.takeWhile p).length → (∀ c, r[k]? = some c → p c = false) → k = (r.takeWhile p).length
  | [], k, h, _ => by simpa using h
  | d :: r, 0, _, h => by
    have e := h d rfl
    rw [List.takeWhile_cons_of_neg (by rw [e]; decide)]
    rfl
  | d :: r, k + 1, hk, h => by
    by_cases hd : p d = true
    · rw [List.takeWhile_cons_of_pos hd, List.length_cons] at hk ⊢
      exact congrArg Nat.succ (tw_off r k (by omega) h)
    · rw [List.takeWhile_cons_of_neg hd] at hk
      exact absurd hk (by simp)
theorem cs_nil {x : Str} (h : cs x = []) : x = ("" : Str) := by
  obtain ⟨a⟩ := x
  have e : a = #[] := by
    apply Array.toList_inj.mp
    simpa using h
  subst e
  rfl
abbrev sNl : Stmt := top 16
abbrev nNl : List Str := ["text", "length"]
theorem scNl : FnScope nNl ["text"] (defScope sNl) := ⟨rfl, rfl, rfl, by decide +kernel, rfl, by decide +kernel, by decide +kernel⟩
theorem has_Nl {f : Addr} {fd : FuncData}  (F : Fun K "name_length" "name_length" sNl f fd) (g : mg "name_length" = some (.ref f)) (B : Blt mg) (W : Wrt K w mg)  :
    Has P w K mg base 1 "name_length" ["text"] (spNl) := by
  refine has_of F g (F.binds (ps := ["text"]) fun _ _ _ _ _ _ us hl => match us, hl with | [_], _ => rfl) (F.ok scNl (fun vs H Q E h => ?_) (fun cdv A outer s H vs Q E hr h => ?_))
  · obtain ⟨x, rfl, _⟩ := h
    rfl
  · refine ⟨_, (pss_cons (ps_if (PW.pt (pw_or (pt_cmpR op_eq (pv 0) pe_str (nomark _)) (pw_or1 (pt_cmpR op_notIn_sign (pe_ix ix_str (pv 0) pe_int (fun _ _ => rfl)) (glob_str (by rfl) W.sta) (by rfl))))) (pss_one (ps_ret pe_int)) pss_nil)
        (pss_cons (ps_set (i := 1) scNl.nd rfl (.inl rfl) pe_int)
        (pss_cons (ps_while PassesOwn.never (PW.pt (pw_and (pt_cmpR op_lt (pv 1) (pe_callB call_len (by rfl) B.len PySem.boot_len (pa_cons (pv 0) pa_nil)) (nomark _)) (pw_and1 (pt_cmpR op_in_sign (pe_ix ix_str (pv 0) (pv 1) (fun _ _ => rfl)) (glob_str (by rfl) W.nam) (by rfl))))) (pss_one (ps_aug (i := 1) scNl.nd rfl (.inl rfl) pe_int ip_add)))
        (pss_one (ps_ret (pv 1)))))), ?_⟩
    obtain ⟨x, rfl, hx, k⟩ := h
    have hz := big_line hx
    by_cases h0 : x = ("" : Str)
    · subst h0
      exact ⟨_, rfl, rfl, _, rfl, if_yes (by simp) (k H (Same.refl H))⟩
    · obtain ⟨c, r, hl⟩ : ∃ c r, cs x = c :: r := by
        cases e : cs x with
        | nil => exact absurd (cs_nil e) h0
        | cons c r => exact ⟨c, r, rfl⟩
      have k' : ∀ n, nameLen (c :: r) = n → Q (.int n) H := fun n e => by
        have z : Q (.int (nameLen (cs x))) H := k H (Same.refl H)
        rw [hl, e] at z
        exact z
      have ac : atI (cs x) 0 = some c := atI_nat (j := 0) (by rw [hl]; rfl)
      refine ⟨_, rfl, rfl, _, rfl, if_no (by simpa using h0) ⟨_, rfl, x, 0, c, rfl, rfl, hz, ac, c, startS, rfl, rfl, _, rfl, ?_⟩⟩
      by_cases hc : c ∈ cs startS
      · refine if_no (by simpa using hc) ?_
        have hnl : nameLen (c :: r) = 1 + (r.takeWhile fun d => decide (d ∈ cs nameS)).length := if_pos hc
        have lx : x.length = r.length + 1 := by
          rw [len_cs, hl]
          rfl
        refine while_by (fun σ H' => ∃ j : Nat, σ = [some (.str x), some (.int (1 + (j : Int)))] ∧ H' = H ∧ j ≤ (r.takeWhile fun d => decide (d ∈ cs nameS)).length) (fun σ H' => match σ with
            | [_, some (.int i)] => x.length - i.toNat
            | _ => 0) ⟨0, rfl, rfl, Nat.zero_le _⟩ ?_ ?_
        · rintro σ H' ⟨j, rfl, rfl, hj⟩
          have jl := Nat.le_trans hj (tw_le r)
          refine ⟨_, rfl, _, rfl, .str x, x.length, rfl, ⟨hz, rfl⟩, _, _, rfl, rfl, _, rfl, ?_⟩
          by_cases hlt : j < r.length
          · obtain ⟨d, hd⟩ : ∃ d, r[j]? = some d := ⟨_, List.getElem?_eq_getElem hlt⟩
            have ad : atI (cs x) (1 + (j : Int)) = some d := by
              have z : (cs x)[j + 1]? = some d := by
                rw [hl]
                simpa using hd
              have y := atI_nat z
              rw [show ((j + 1 : Nat) : Int) = 1 + (j : Int) by omega] at y
              exact y
            refine if_yes (by simp; omega) ⟨_, rfl, _, rfl, x, _, d, rfl, rfl, hz, ad, d, nameS, rfl, rfl, _, rfl, ?_⟩
            by_cases hn : d ∈ cs nameS
            · refine if_yes (by simpa using hn) ⟨_, rfl, _, _, rfl, rfl, ⟨j + 1, ?_, rfl, tw_on r j d hd hj (by simpa using hn)⟩, ?_⟩
              · show [some (V.str x), some (V.int (1 + (j : Int) + 1))] = [some (V.str x), some (V.int (1 + ((j + 1 : Nat) : Int)))]
                rw [show (1 + (j : Int) + 1) = 1 + ((j + 1 : Nat) : Int) by omega]
              · show x.length - (1 + (j : Int) + 1).toNat < x.length - (1 + (j : Int)).toNat
                omega
            · refine if_no (by simpa using hn) ⟨_, rfl, ?_⟩
              refine k' _ ?_
              have e := tw_off (p := fun d => decide (d ∈ cs nameS)) r j hj (fun c' hc' => by
                rw [hd] at hc'
                obtain rfl := Option.some.inj hc'
                simpa using hn)
              rw [hnl, ← e] <;> omega
          · refine if_no (by simp; omega) (if_no rfl ⟨_, rfl, ?_⟩)
            refine k' _ ?_
            have e := tw_off (p := fun d => decide (d ∈ cs nameS)) r j hj (fun c' hc' => by
              rw [List.getElem?_eq_none (by omega)] at hc'
              cases hc')
            rw [hnl, ← e] <;> omega
        · intro σ H' Q1 Q2 hq h
          obtain ⟨v, e1, v2, e2, y, n, e3, ln, i, j, e4, e5, b, e6, z⟩ := h
          refine ⟨v, e1, v2, e2, y, n, e3, ln, i, j, e4, e5, b, e6, ?_⟩
          cases b with
          | false => exact hq _ _ z
          | true =>
            obtain ⟨a1, a2, a3, a4, a5, a6, a7, a8, a9, b1, b2, b3, b4, b5, b6, b7, b8, z⟩ := z
            exact ⟨a1, a2, a3, a4, a5, a6, a7, a8, a9, b1, b2, b3, b4, b5, b6, b7, b8, hq _ _ z⟩
      · refine if_yes (by simpa using hc) ?_
        exact k' 0 (if_neg hc)
abbrev sNn : Stmt := top 17
abbrev nNn : List Str := ["text"]
theorem scNn : FnScope nNn ["text"] (defScope sNn) := ⟨rfl, rfl, rfl, by decide +kernel, rfl, by decide +kernel, by decide +kernel⟩
theorem has_Nn {f : Addr} {fd : FuncData}  (F : Fun K "is_name" "is_name" sNn f fd) (g : mg "is_name" = some (.ref f)) (B : Blt mg) (hNl : Has P w K mg base 1 "name_length" ["text"] (spNl)) :
    Has P w K mg base 2 "is_name" ["text"] (spNn) := by
  obtain ⟨fNl, dNl, gNl, kNl, bNl, GNl⟩ := hNl
  refine has_of F g (F.binds (ps := ["text"]) fun _ _ _ _ _ _ us hl => match us, hl with | [_], _ => rfl) (F.ok scNn (fun vs H Q E h => ?_) (fun cdv A outer s H vs Q E hr h => ?_))
  · obtain ⟨x, rfl, _⟩ := h
    rfl
  · refine ⟨_, (pss_one (ps_ret (pe_and (pe_cmpR op_ne (pv 0) pe_str (nomark _)) (pe_one (pe_cmpR op_eq (pe_call GNl hr rfl gNl kNl bNl .nil pass0 (pa_cons (pv 0) pa_nil)) (pe_callB call_len (by rfl) B.len PySem.boot_len (pa_cons (pv 0) pa_nil)) (nomark _)))))), ?_⟩
    obtain ⟨x, rfl, hx, k⟩ := h
    have hz := big_line hx
    refine ⟨_, rfl, rfl, _, rfl, ?_⟩
    have done : ∀ b H', isNameB (cs x) = b → Same H H' → Q (.bl b) H' := fun b H' e s => by
      have z : Q (.bl (isNameB (cs x))) H' := k H' s
      rw [e] at z
      exact z
    by_cases h0 : x = ("" : Str)
    · subst h0
      exact if_no (by simp) (done false H (by decide +kernel) (Same.refl H))
    · refine if_yes (by simpa using h0) ⟨_, rfl, x, rfl, hx, fun H1 s1 => ⟨_, rfl, .str x, x.length, rfl, ⟨hz, rfl⟩, rfl, ?_⟩⟩
      refine done _ H1 ?_ s1
      have ne : (cs x).isEmpty = false := by
        cases e : cs x with
        | nil => exact absurd (cs_nil e) h0
        | cons c r => rfl
      unfold isNameB
      rw [ne, len_cs x]
      show (!false && nameLen (cs x) == (cs x).length) = decide (V.int (nameLen (cs x) : Int) = V.int ((cs x).length : Int))
      by_cases q : nameLen (cs x) = (cs x).length
      · rw [q, decide_eq_true rfl]
        simp
      · have q2 : ¬ ((nameLen (cs x) : Int) = ((cs x).length : Int)) := by omega
        rw [beq_eq_false_iff_ne.mpr q, decide_eq_false (fun z => q2 (V.int.inj z))]
        rfl
abbrev sIp : Stmt := top 18
abbrev nIp : List Str := ["text", "sign"]
theorem scIp : FnScope nIp ["text"] (defScope sIp) := ⟨rfl, rfl, rfl, by decide +kernel, rfl, by decide +kernel, by decide +kernel⟩
theorem has_Ip {f : Addr} {fd : FuncData}  (F : Fun K "is_place" "is_place" sIp f fd) (g : mg "is_place" = some (.ref f)) (B : Blt mg) (W : Wrt K w mg)  :
    Has P w K mg base 1 "is_place" ["text"] (spIp) := by
  refine has_of F g (F.binds (ps := ["text"]) fun _ _ _ _ _ _ us hl => match us, hl with | [_], _ => rfl) (F.ok scIp (fun vs H Q E h => ?_) (fun cdv A outer s H vs Q E hr h => ?_))
  · obtain ⟨x, rfl, _⟩ := h
    rfl
  · obtain ⟨pP, gP, sP⟩ := W.pls
    refine ⟨_, (pss_cons (ps_if (pt_cmpR op_in_seq (pv 0) (pe_glob (v := .ref pP) (by rfl) gP rfl) (by rfl)) (pss_one (ps_ret pe_bl)) pss_nil)
        (pss_one (ps_ret (pe_and (pe_cmpR op_ne (pv 0) pe_str (nomark _)) (pe_and (pe_cmpR op_ne (pe_ix ix_str (pv 0) pe_int (fun _ _ => rfl)) pe_str (nomark _)) (pe_one (pe_callB (cr_all rfl) (by rfl) B.all (by decide +kernel) (pa_cons (pe_lc (own := [("sign", 1)]) (g := gName 1) (tt := tYes) rfl scIp.nd (pi_str (pv 0)) (blkOk_by (N := nIp) (sc := defScope sIp) (by decide +kernel)) (fun _ _ _ _ _ => pg_name (i := 1) scIp.nd rfl (.inl rfl)) (fun _ _ _ _ _ => pts_nil) (fun _ _ _ _ _ => (pe_cmpR op_in_sign (pv 1) (glob_str (by rfl) W.dig) (by rfl)))) pa_nil)))))))), ?_⟩
    obtain ⟨x, rfl, hx, k⟩ := h
    have hz := big_line hx
    have done : ∀ b H', isPlB (cs x) = b → Same H H' → Q (.bl b) H' := fun b H' e s => by
      have z : Q (.bl (isPlB (cs x))) H' := k H' s
      rw [e] at z
      exact z
    have e0 : isPlB (cs x) = (inV (.str x) (plW.map V.str) || (!(cs x).isEmpty && (cs x).head? != some 48 && (cs x).all fun d => decide (d ∈ digC))) := by
      unfold isPlB
      rw [st_cs]
    refine ⟨_, rfl, pP, plW.map V.str, rfl, .inr (sP H), rfl, by decide +kernel, _, rfl, ?_⟩
    dsimp only
    rw [if_neg (by decide : ¬ false = true)]
    refine if_by (fun e => ?_) (fun e => ?_)
    · exact done _ H (by rw [e0, e]; rfl) (Same.refl H)
    rw [e, Bool.false_or] at e0
    refine ⟨_, rfl, rfl, _, rfl, ?_⟩
    by_cases h0 : x = ("" : Str)
    · subst h0
      exact if_no (by simp) (done false H (by rw [e0]; rfl) (Same.refl H))
    · obtain ⟨c, r, hl⟩ : ∃ c r, cs x = c :: r := by
        cases e : cs x with
        | nil => exact absurd (cs_nil e) h0
        | cons c r => exact ⟨c, r, rfl⟩
      have ac : atI (cs x) 0 = some c := atI_nat (j := 0) (by rw [hl]; rfl)
      refine if_yes (by simpa using h0) ⟨_, rfl, x, 0, c, rfl, rfl, hz, ac, rfl, _, rfl, ?_⟩
      have q48 : ∀ c : Nat, decide (V.str (⟨#[c]⟩ : Str) = V.str ("0" : Str)) = (c == 48) := fun c => by
        by_cases e : c = 48
        · subst e
          decide +kernel
        · rw [beq_eq_false_iff_ne.mpr e]
          refine decide_eq_false fun z => e ?_
          have y : cs (⟨#[c]⟩ : Str) = cs ("0" : Str) := congrArg cs (V.str.inj z)
          have w : cs ("0" : Str) = [48] := by decide +kernel
          rw [w] at y
          exact (List.cons.inj y).1
      refine if_by (fun e => ?_) (fun e => ?_)
      · have ec : (c == 48) = false := by rw [q48] at e; simpa using e
        refine ⟨_, rfl, x, rfl, fun D hD => lc_it walk_str (fun i H' => H' = L2.upd H D (.lst (((cs x).take i).map fun d => V.bl (decide (d ∈ cs digS))))) (by simp) (fun _ _ _ _ => trivial) (fun i v H' H2 hi e y => ?_) (fun H' e => ?_)⟩
        · obtain ⟨rfl, d, hd, rfl⟩ := y
          subst e
          have hd' : (cs x)[i]? = some d := by simpa using hd
          refine ⟨rfl, _, rfl, d, digS, rfl, rfl, _, upd_same, ?_, ?_⟩
          · rw [List.length_map, List.length_take]
            have := len_cs x
            rw [sizeLine_eq] at hz ⊢
            unfold big at hx
            omega
          · rw [upd_upd, take_snoc hd', List.map_append]
            rfl
        · subst e
          have e2 : (cs x).take x.cps.size = cs x := List.take_of_length_le (by simp)
          rw [e2]
          refine ⟨D, (cs x).map fun d => decide (d ∈ cs digS), rfl, SqL.of (by rw [upd_same, List.map_map]; rfl), ?_⟩
          refine done _ _ ?_ (same_upd hD)
          rw [e0, cs_dig, List.all_map, hl]
          show (!false && (some c != some 48) && _) = _
          rw [show (some c != some 48) = true by simpa using ec]
          rfl
      · have ec : c = 48 := by rw [q48] at e; simpa using e
        refine done false H ?_ (Same.refl H)
        rw [e0, hl, ec]
        rfl
end
end Qb
end PySem
namespace PySem
namespace Qb
open PySem.W PySem.Calls PyProof.Rows L2
/-! # is_sum, rank -/
def Sm.ok : Sm → Bool
  | .num n => decide (0 ≤ n)
  | .of w => isNameB (cs w) || (isPlB (cs w) && !inV (.str w) (alW.map V.str))
  | .one s a => (s == "minus" || s == "no") && a.ok
  | .two s a b => isOp s && (a.ok && b.ok)
  | .three s a b c => (s == "choose") && (a.ok && (b.ok && c.ok))
/-- kinds that are none of the others' -/
def Sm.fine : Sm → Prop
  | .num _ => True
  | .of w => w.length ≤ big
  | .one s a => s ≠ "number" ∧ s ≠ "of" ∧ a.fine
  | .two s a b => a.fine ∧ b.fine
  | .three s a b c => a.fine ∧ b.fine ∧ c.fine
def spIs (K : Frag) : Nat → Sp
  | 0 => fun _ _ _ _ => False
  | n + 1 => fun vs H Q _ => ∃ (v : V) (t : Sm), vs = [v] ∧ Dp K H v t.d ∧ t.ht ≤ n ∧ t.fine ∧ ∀ H', Same H H' → Q (.bl t.ok) H'
theorem dp_num {K : Frag} {H : Hp} {v : V} {n : Int} (h : Dp K H v (Sm.num n).d) : ∃ a, v = .ref a ∧ SqT K H a [.str "number", .int n] := by
  obtain ⟨a, x, rfl, hq, hx⟩ := pc_two h
  cases hx
  exact ⟨a, rfl, hq⟩
theorem dp_of {K : Frag} {H : Hp} {v : V} {w : Str} (h : Dp K H v (Sm.of w).d) : ∃ a, v = .ref a ∧ SqT K H a [.str "of", .str w] := dp_two h
theorem pc_four {K : Frag} {H : Hp} {v : V} {k : Str} {d e f : PyData} (h : Dp K H v (.tuple [.str k, d, e, f])) : ∃ a x y z, v = .ref a ∧ SqT K H a [.str k, x, y, z] ∧ Dp K H x d ∧ Dp K H y e ∧ Dp K H z f := by
  obtain ⟨a, xs, rfl, hq, all⟩ := dp_tup h
  cases all with
  | cons h1 t1 =>
    obtain rfl := dp_str h1
    cases t1 with
    | cons h2 t2 =>
      cases t2 with
      | cons h3 t3 =>
        cases t3 with
        | cons h4 t4 =>
          cases t4
          exact ⟨a, _, _, _, rfl, hq, h2, h3, h4⟩
theorem all_hit {K : Frag} {n : Nat} {is : List Nat} {t : TS} {rest : List (List Nat × PatR × TS)} {a : Addr} {ys : List V} {D : Ends} {σ : L2.St} {H : Hp} (hq : SqT K H a ys) (h : t D (setAll σ is ys) H) (hn : n = ys.length := by rfl) :
    tCases ((is, rSeq K n (List.replicate ys.length rCap), t) :: rest) (.ref a) D σ H := by
  subst hn
  refine ⟨a, _, rfl, hq, fun ne => absurd rfl ne, fun _ => ?_⟩
  exact each_caps (Q := fun o' => match o' with | none => tCases rest (.ref a) D σ H | some more => t D (setAll σ is more) H) h
theorem len_miss {K : Frag} {n : Nat} {is : List Nat} {rs : List PatR} {t : TS} {rest : List (List Nat × PatR × TS)} {a : Addr} {ys : List V} {D : Ends} {σ : L2.St} {H : Hp} (hq : SqT K H a ys) (hn : ys.length ≠ n) (h : tCases rest (.ref a) D σ H) :
    tCases ((is, rSeq K n rs, t) :: rest) (.ref a) D σ H := ⟨_, _, rfl, hq, fun _ => h, fun z => (hn z).elim⟩
theorem mn_hit {s : Str} (h : s = "minus" ∨ s = "no") : Hit (rOr [rLit "minus", rLit "no"]) s := by
  rcases h with rfl | rfl
  · exact hit_or hit_lit
  · exact hit_or2 (miss_lit (by decide +kernel)) (hit_or hit_lit)
theorem mn_miss {s : Str} (h : ¬(s = "minus" ∨ s = "no")) : Miss (rOr [rLit "minus", rLit "no"]) s :=
  miss_or (miss_lit fun z => h (.inl z)) (miss_or (miss_lit fun z => h (.inr z)) miss_or0)
section
variable {P : Program} {w : World} {K : Frag} {mg : Str → Option Value} {base : Heap}
abbrev sIs : Stmt := top 22
abbrev nIs : List Str := ["tree", "number", "name", "part", "test", "one", "other", "sign"]
theorem scIs : FnScope nIs ["tree"] (defScope sIs) := ⟨rfl, rfl, rfl, by decide +kernel, rfl, by decide +kernel, by decide +kernel⟩
theorem ok_Is {f : Addr} {fd : FuncData} (F : Fun K "is_sum" "is_sum" sIs f fd) (gIs : mg "is_sum" = some (.ref f)) (bIs : Binds K fd ["tree"] []) (B : Blt mg) (W : Wrt K w mg) (hIp : Has P w K mg base 1 "is_place" ["text"] (spIp)) (hNn : Has P w K mg base 2 "is_name" ["text"] (spNn)) :
    ∀ n, FnOk P w K mg base CX0 (n + 3) f fd ["tree"] (spIs K n)
  | 0 => F.ok scIs (fun vs H Q E h => h.elim) (fun cdv A outer s H vs Q E hr h => h.elim)
  | n + 1 => by
    have GIs := ok_Is F gIs bIs B W hIp hNn n
    have kIs := F.kp
    obtain ⟨fIp, dIp, gIp, kIp, bIp, GIp⟩ := hIp
    obtain ⟨fNn, dNn, gNn, kNn, bNn, GNn⟩ := hNn
    obtain ⟨pA, gA, sA⟩ := W.alls
    obtain ⟨dR, eR, nR, gR, DR, ns⟩ := W.rks
    refine F.ok scIs (fun vs H Q E h => ?_) (fun cdv A outer s H vs Q E hr h => ?_)
    · obtain ⟨v, t, rfl, _⟩ := h
      rfl
    · refine ⟨_, (pss_cons (ps_match (pv 0)
        (pcs_cons (is := [1]) scIs.nd (pp_seq rfl (pps_cons pp_lit (pps_cons pp_cap pps_nil))) (.cons ⟨rfl, .inl rfl, .inr rfl⟩ .nil)
          (pss_one (ps_ret (pe_cmpR op_ge (pv 1) pe_int (nomark _))))
        (pcs_cons (is := [2]) scIs.nd (pp_seq rfl (pps_cons pp_lit (pps_cons pp_cap pps_nil))) (.cons ⟨rfl, .inl rfl, .inr rfl⟩ .nil)
          (pss_one (ps_ret (pe_or (pe_call GNn (hr.mono (by omega)) rfl gNn kNn bNn .nil pass0 (pa_cons (pv 2) pa_nil)) (pe_one (pe_and (pe_call GIp (hr.mono (by omega)) rfl gIp kIp bIp .nil pass0 (pa_cons (pv 2) pa_nil)) (pe_one (pe_cmpR op_notIn_seq (pv 2) (pe_glob (v := .ref pA) (by rfl) gA rfl) (by rfl))))))))
        (pcs_cons (is := [3]) scIs.nd (pp_seq rfl (pps_cons (pp_or (pf_cons pp_lit (pf_cons pp_lit pf_nil))) (pps_cons pp_cap pps_nil))) (.cons ⟨rfl, .inl rfl, .inr rfl⟩ .nil)
          (pss_one (ps_ret (pe_call GIs (hr.mono (by omega)) rfl gIs kIs bIs .nil pass0 (pa_cons (pv 3) pa_nil))))
        (pcs_cons (is := [4, 5, 6]) scIs.nd (pp_seq rfl (pps_cons pp_lit (pps_cons pp_cap (pps_cons pp_cap (pps_cons pp_cap pps_nil))))) (.cons ⟨rfl, .inl rfl, .inr rfl⟩ (.cons ⟨rfl, .inl rfl, .inr rfl⟩ (.cons ⟨rfl, .inl rfl, .inr rfl⟩ .nil)))
          (pss_one (ps_ret (pe_and (pe_call GIs (hr.mono (by omega)) rfl gIs kIs bIs .nil pass0 (pa_cons (pv 4) pa_nil)) (pe_and (pe_call GIs (hr.mono (by omega)) rfl gIs kIs bIs .nil pass0 (pa_cons (pv 5) pa_nil)) (pe_one (pe_call GIs (hr.mono (by omega)) rfl gIs kIs bIs .nil pass0 (pa_cons (pv 6) pa_nil)))))))
        (pcs_cons (is := [7, 5, 6]) scIs.nd (pp_seq rfl (pps_cons pp_cap (pps_cons pp_cap (pps_cons pp_cap pps_nil)))) (.cons ⟨rfl, .inl rfl, .inr rfl⟩ (.cons ⟨rfl, .inl rfl, .inr rfl⟩ (.cons ⟨rfl, .inl rfl, .inr rfl⟩ .nil)))
          (pss_one (ps_ret (pe_and (pe_cmpR (op_in_kd DR) (pv 7) (pe_glob (v := .ref dR) (by rfl) gR rfl) (by rfl)) (pe_and (pe_call GIs (hr.mono (by omega)) rfl gIs kIs bIs .nil pass0 (pa_cons (pv 5) pa_nil)) (pe_one (pe_call GIs (hr.mono (by omega)) rfl gIs kIs bIs .nil pass0 (pa_cons (pv 6) pa_nil))))))) pcs_nil))))))
        (pss_one (ps_ret pe_bl))), ?_⟩
      obtain ⟨v, t, rfl, hd, hh, hf, k⟩ := h
      have k0 : Q (.bl t.ok) H := k H (Same.refl H)
      -- a part is asked
      have sub : ∀ {m : Nat} {u : Sm} {x : V} {H1 : Hp} {Q' : VK} {E' : XK}, u.ht + 1 ≤ n + 1 → n + 1 = m → u.fine → Dp K H1 x u.d → (∀ H2, Same H1 H2 → Q' (.bl u.ok) H2) → u.ht + 1 ≤ n → spIs K n ([x] ++ []) H1 Q' E' := by
        intro m u x H1 Q' E' _ _ uf ud q hn
        obtain ⟨n', rfl⟩ : ∃ n', n = n' + 1 := ⟨n - 1, by omega⟩
        exact ⟨x, u, rfl, ud, by omega, uf, q⟩
      cases t with
      | num i =>
        obtain ⟨a, rfl, hq⟩ := dp_num hd
        exact ⟨_, rfl, case_hit hq hit_lit ⟨_, rfl, _, _, rfl, rfl, k0⟩⟩
      | of x =>
        obtain ⟨a, rfl, hq⟩ := dp_of hd
        refine ⟨_, rfl, case_miss hq ml (case_hit hq hit_lit ⟨_, rfl, x, rfl, hf, fun H1 s1 => ⟨_, rfl, ?_⟩⟩)⟩
        have z := k H1 s1
        have e0 : (Sm.of x).ok = (isNameB (cs x) || (isPlB (cs x) && !inV (.str x) (alW.map V.str))) := rfl
        cases e : isNameB (cs x) with
        | true =>
          rw [e0, e] at z
          exact if_yes rfl z
        | false =>
          refine if_no rfl ⟨_, rfl, x, rfl, hf, fun H2 s2 => ⟨_, rfl, ?_⟩⟩
          have z := k H2 (s1.trans s2)
          cases e2 : isPlB (cs x) with
          | false =>
            rw [e0, e, e2] at z
            exact if_no rfl z
          | true =>
            rw [e0, e, e2] at z
            exact if_yes rfl ⟨_, rfl, pA, alW.map V.str, rfl, .inr (sA H2), rfl, by decide +kernel, z⟩
      | one s a =>
        obtain ⟨p, x, rfl, hq, hx⟩ := pc_two hd
        have ha : a.ht + 1 ≤ n := by
          have : 1 + a.ht ≤ n := hh
          omega
        refine ⟨_, rfl, case_miss hq (.inl (miss_lit hf.1)) (case_miss hq (.inl (miss_lit hf.2.1)) ?_)⟩
        by_cases c : s = "minus" ∨ s = "no"
        · refine case_hit hq (mn_hit c) ⟨_, rfl, sub (m := n + 1) (by omega) rfl hf.2.2 hx (fun H1 s1 => ?_) ha⟩
          have z := k H1 s1
          have e0 : (Sm.one s a).ok = ((s == "minus" || s == "no") && a.ok) := rfl
          rw [e0, show (s == "minus" || s == "no") = true by rcases c with rfl | rfl <;> rfl] at z
          exact z
        · refine case_miss hq (.inl (mn_miss c)) (len_miss hq (by simp) (len_miss hq (by simp) ?_))
          have e0 : (Sm.one s a).ok = ((s == "minus" || s == "no") && a.ok) := rfl
          rw [e0, show (s == "minus" || s == "no") = false by
            rw [beq_eq_false_iff_ne.mpr fun z => c (.inl z), beq_eq_false_iff_ne.mpr fun z => c (.inr z)]
            rfl] at k0
          exact k0
      | two s a b =>
        obtain ⟨p, x, y, rfl, hq, hx, hy⟩ := pc_three hd
        have hab : 1 + max a.ht b.ht ≤ n := hh
        refine ⟨_, rfl, len_miss hq (by simp) (len_miss hq (by simp) (len_miss hq (by simp) (len_miss hq (by simp) (all_hit hq ?_))))⟩
        have e0 : (Sm.two s a b).ok = (isOp s && (a.ok && b.ok)) := rfl
        refine ⟨_, rfl, ?_⟩
        cases e : isOp s with
        | false =>
          rw [e0, e] at k0
          exact ⟨s, none, rfl, rfl, (ns s).1 e, _, rfl, if_no rfl k0⟩
        | true =>
          obtain ⟨t, et⟩ := (ns s).2 e
          refine ⟨s, _, rfl, rfl, et, _, rfl, if_yes rfl ⟨_, rfl, sub (m := n + 1) (by omega) rfl hf.1 hx (fun H1 s1 => ⟨_, rfl, ?_⟩) (by omega)⟩⟩
          cases ea : a.ok with
          | false =>
            have z := k H1 s1
            rw [e0, e, ea] at z
            exact if_no rfl z
          | true =>
            refine if_yes rfl ⟨_, rfl, sub (m := n + 1) (by omega) rfl hf.2 (dp_same s1 hy) (fun H2 s2 => ?_) (by omega)⟩
            have z := k H2 (s1.trans s2)
            rw [e0, e, ea] at z
            exact z
      | three s a b c =>
        obtain ⟨p, x, y, z, rfl, hq, hx, hy, hz⟩ := pc_four hd
        have habc : 1 + max a.ht (max b.ht c.ht) ≤ n := hh
        refine ⟨_, rfl, len_miss hq (by simp) (len_miss hq (by simp) (len_miss hq (by simp) ?_))⟩
        have e0 : (Sm.three s a b c).ok = ((s == "choose") && (a.ok && (b.ok && c.ok))) := rfl
        by_cases c0 : s = "choose"
        · subst c0
          refine case_hit hq hit_lit ⟨_, rfl, sub (m := n + 1) (by omega) rfl hf.1 hx (fun H1 s1 => ⟨_, rfl, ?_⟩) (by omega)⟩
          have e1 : (Sm.three "choose" a b c).ok = (a.ok && (b.ok && c.ok)) := rfl
          cases ea : a.ok with
          | false =>
            have z := k H1 s1
            rw [e1, ea] at z
            exact if_no rfl z
          | true =>
            refine if_yes rfl ⟨_, rfl, sub (m := n + 1) (by omega) rfl hf.2.1 (dp_same s1 hy) (fun H2 s2 => ⟨_, rfl, ?_⟩) (by omega)⟩
            cases eb : b.ok with
            | false =>
              have z := k H2 (s1.trans s2)
              rw [e1, ea, eb] at z
              exact if_no rfl z
            | true =>
              refine if_yes rfl ⟨_, rfl, sub (m := n + 1) (by omega) rfl hf.2.2 (dp_same (s1.trans s2) hz) (fun H3 s3 => ?_) (by omega)⟩
              have z := k H3 ((s1.trans s2).trans s3)
              rw [e1, ea, eb] at z
              exact z
        · refine case_miss hq (.inl (miss_lit c0)) (len_miss hq (by simp) ?_)
          rw [e0, beq_eq_false_iff_ne.mpr c0] at k0
          exact k0
end
end Qb
end PySem
namespace PySem
namespace Qb
open PySem.W PySem.Calls PyProof.Rows L2
/-! # rank, sum_text, part_text -/
theorem cs_app (x y : Str) : cs (x ++ y) = cs x ++ cs y := by
  show (x.cps ++ y.cps).toList = _
  simp
theorem str_of {x : Str} {l : L} (h : cs x = l) : x = st l := by rw [← h, st_cs]
theorem name_nm (l : L) : isNameB l = isNm l := by
  cases l with
  | nil => rfl
  | cons c r =>
    show (nameLen (c :: r) == r.length + 1) = (decide (c ∈ staC) && r.all fun d => decide (d ∈ namC))
    have en : nameLen (c :: r) = if c ∈ cs startS then 1 + (r.takeWhile fun d => decide (d ∈ cs nameS)).length else 0 := rfl
    rw [en]
    by_cases h : c ∈ staC
    · have h' : c ∈ cs startS := h
      rw [if_pos h', decide_eq_true h, Bool.true_and]
      have key : ∀ (r : L), (1 + (r.takeWhile fun d => decide (d ∈ cs nameS)).length == r.length + 1) = r.all fun d => decide (d ∈ namC) := by
        intro r
        induction r with
        | nil => rfl
        | cons d r ih =>
          by_cases hd : d ∈ namC
          · have p : decide (d ∈ cs nameS) = true := decide_eq_true hd
            rw [List.takeWhile_cons_of_pos (p := fun d => decide (d ∈ cs nameS)) p, List.all_cons, decide_eq_true hd, Bool.true_and, ← ih, List.length_cons, List.length_cons]
            by_cases q : 1 + (r.takeWhile fun d => decide (d ∈ cs nameS)).length = r.length + 1
            · rw [q, beq_self_eq_true, beq_iff_eq.mpr (by omega)]
            · rw [beq_eq_false_iff_ne.mpr q, beq_eq_false_iff_ne.mpr (by omega)]
          · have p : ¬ decide (d ∈ cs nameS) = true := fun z => hd (of_decide_eq_true z)
            rw [List.takeWhile_cons_of_neg (p := fun d => decide (d ∈ cs nameS)) p, List.all_cons, decide_eq_false hd, Bool.false_and]
            exact beq_eq_false_iff_ne.mpr (by simp)
      exact key r
    · have h' : ¬ c ∈ cs startS := h
      rw [if_neg h', decide_eq_false h, Bool.false_and]
      exact beq_eq_false_iff_ne.mpr (by omega)
theorem at0 {x : V} {xs : List V} : atI (x :: xs) 0 = some x := atI_nat (j := 0) rfl
theorem inV_iff (x : Str) (ws : List Str) : inV (.str x) (ws.map V.str) = decide (x ∈ ws) := by
  induction ws with
  | nil => rfl
  | cons w ws ih =>
    have e : inV (.str x) ((w :: ws).map V.str) = ((w == x) || inV (.str x) (ws.map V.str)) := rfl
    rw [e, ih]
    by_cases h : x = w
    · subst h
      simp
    · rw [beq_eq_false_iff_ne.mpr (Ne.symm h), Bool.false_or]
      simp [h]
theorem ok_nice : ∀ {t : Sm}, t.ok = true → t.nice
  | .num n, h => of_decide_eq_true (p := 0 ≤ n) h
  | .of w, h => by
    have h' : (isNameB (cs w) || (isPlB (cs w) && !inV (.str w) (alW.map V.str))) = true := h
    rw [name_nm] at h'
    cases e : isNm (cs w) with
    | true => exact .inl e
    | false =>
      rw [e, Bool.false_or, Bool.and_eq_true, inV_iff] at h'
      obtain ⟨h1, h2⟩ := h'
      refine .inr ⟨e, ?_⟩
      unfold isPlB at h1
      rw [st_cs, inV_iff, Bool.or_eq_true] at h1
      rcases h1 with h1 | h1
      · have m := of_decide_eq_true h1
        have n : w ∉ alW := by simpa using h2
        have key : ∀ w ∈ plW, w ∉ alW → cs w = [48] ∨ cs w = [35] ∨ cs w = [63] := by decide +kernel
        rcases key w m n with z | z | z
        · exact .inr (.inr ⟨by rw [z]; simp, fun c m => by rw [z] at m; rw [List.mem_singleton.mp m]; decide, fun _ => by rw [z]; rfl⟩)
        · exact .inl z
        · exact .inr (.inl z)
      · rw [Bool.and_eq_true, Bool.and_eq_true, List.all_eq_true] at h1
        obtain ⟨⟨a, b⟩, c⟩ := h1
        refine .inr (.inr ⟨fun z => ?_, fun x m => of_decide_eq_true (c x m), fun z => ?_⟩)
        · rw [z] at a
          cases a
        · rw [z] at b
          simp at b
  | .one s a, h => by
    have h' : ((s == "minus" || s == "no") && a.ok) = true := h
    rw [Bool.and_eq_true, Bool.or_eq_true, beq_iff_eq, beq_iff_eq] at h'
    exact ⟨h'.1, ok_nice h'.2⟩
  | .two s a b, h => by
    have h' : (isOp s && (a.ok && b.ok)) = true := h
    rw [Bool.and_eq_true, Bool.and_eq_true] at h'
    exact ⟨h'.1, ok_nice h'.2.1, ok_nice h'.2.2⟩
  | .three s a b c, h => by
    have h' : ((s == "choose") && (a.ok && (b.ok && c.ok))) = true := h
    rw [Bool.and_eq_true, Bool.and_eq_true, Bool.and_eq_true, beq_iff_eq] at h'
    exact ⟨h'.1, ok_nice h'.2.1, ok_nice h'.2.2.1, ok_nice h'.2.2.2⟩
def Sm.kd : Sm → Str
  | .num _ => "number"
  | .of _ => "of"
  | .one s _ => s
  | .two s _ _ => s
  | .three s _ _ _ => s
theorem dp_kd {K : Frag} {H : Hp} {v : V} {t : Sm} (h : Dp K H v t.d) : ∃ a ys, v = .ref a ∧ SqT K H a (.str t.kd :: ys) := by
  cases t with
  | num n => obtain ⟨a, e, hq⟩ := dp_num h; exact ⟨a, _, e, hq⟩
  | of w => obtain ⟨a, e, hq⟩ := dp_of h; exact ⟨a, _, e, hq⟩
  | one s a => obtain ⟨p, x, e, hq, _⟩ := pc_two h; exact ⟨p, _, e, hq⟩
  | two s a b => obtain ⟨p, x, y, e, hq, _⟩ := pc_three h; exact ⟨p, _, e, hq⟩
  | three s a b c => obtain ⟨p, x, y, z, e, hq, _⟩ := pc_four h; exact ⟨p, _, e, hq⟩
theorem par_len (b : Bool) (l : L) : l.length ≤ (par b l).length ∧ (par b l).length ≤ l.length + 2 := by
  cases b
  · exact ⟨Nat.le_refl _, Nat.le_add_right _ _⟩
  · show l.length ≤ (40 :: (l ++ [41])).length ∧ (40 :: (l ++ [41])).length ≤ _
    simp
    omega
theorem op_kinds {s : Str} (h : isOp s = true) : s ∉ (["number", "of"] : List Str) ∧ s ∉ (["minus", "no"] : List Str) ∧ s ≠ "choose" := by
  obtain ⟨c, m⟩ := op_tpk h
  have key : ∀ p ∈ tpk, p.1 ∉ (["number", "of"] : List Str) ∧ p.1 ∉ (["minus", "no"] : List Str) ∧ p.1 ≠ "choose" := by decide +kernel
  exact key _ m
end Qb
end PySem
namespace PySem
namespace Qb
open PySem.W PySem.Calls PyProof.Rows L2
/-! # sums told as texts -/
theorem len_st (l : L) : (st l).length = l.length := by rw [len_cs, cs_st]
theorem line_small {n : Nat} (h : n ≤ 100000) : n ≤ sizeLine := by
  rw [sizeLine_eq]
  omega
theorem int_log {i : Int} (h0 : 0 ≤ i) (h : i < 10 ^ 80) : i.natAbs.log2 < 1920 := by
  obtain ⟨n, rfl⟩ : ∃ n : Nat, i = n := ⟨i.toNat, (Int.toNat_of_nonneg h0).symm⟩
  rw [Int.natAbs_natCast]
  have h' : n < 10 ^ 80 := by exact_mod_cast h
  by_cases z : n = 0
  · subst z; decide
  · exact (Nat.log2_lt z).mpr (Nat.lt_trans h' (by decide +kernel))
end Qb
end PySem
namespace PySem
namespace Qb
open PySem.W PySem.Calls PyProof.Rows L2
/-! # the scanner -/
structure Txt (K : PySem.W.Frag) (mg : Str → Option Value) (C : Addr) : Prop where
  cl : Cls K C
  nT : NoAttr K C "text"
  nW : NoAttr K C "whole"
  nA : NoAttr K C "at"
  nE : NoAttr K C "word_end"
  mgC : mg "Scanner" = some (.ref C)
def fl (x y : Str) (i : Nat) : List (Str × V) := [("text", .str x), ("whole", .str y), ("at", .int (i : Nat)), ("word_end", .int (-1))]
theorem fl_at (x y : Str) (i j : Nat) : putF ("at" : Str) (.int (j : Nat)) (fl x y i) = fl x y j := by
  show (if ("text" : Str) = "at" then _ else (("text" : Str), V.str x) :: (if ("whole" : Str) = "at" then _ else (("whole" : Str), V.str y) :: (if ("at" : Str) = "at" then (("at" : Str), V.int (j : Nat)) :: [(("word_end" : Str), V.int (-1))] else _))) = _
  rw [if_neg (by decide +kernel), if_neg (by decide +kernel), if_pos rfl]
  rfl
theorem fl_text (x y : Str) (i : Nat) : (fl x y i).lookup ("text" : Str) = some (.str x) := rfl
theorem fl_whole (x y : Str) (i : Nat) : (fl x y i).lookup ("whole" : Str) = some (.str y) := rfl
theorem fl_atv (x y : Str) (i : Nat) : (fl x y i).lookup ("at" : Str) = some (.int (i : Nat)) := rfl
/-- at p: the scanner of the text x, r lies ahead -/
def Sc (C : Addr) (H : Hp) (p : Addr) (x y : Str) (r : L) : Prop := ∃ (i : Nat) (dx : Addr), H p = some (.ins C dx (fl x y i)) ∧ (cs x).drop i = r ∧ i ≤ x.length ∧ x.length ≤ 90000
/-- nothing but p has changed -/
def Mv (p : Addr) (H H' : Hp) : Prop := Same (hide H p) (hide H' p)
theorem Mv.refl {p : Addr} {H : Hp} : Mv p H H := Same.refl _
theorem Mv.trans {p : Addr} {H H' H'' : Hp} (a : Mv p H H') (b : Mv p H' H'') : Mv p H H'' := Same.trans a b
theorem Mv.same {p : Addr} {H H' : Hp} (s : Same H H') : Mv p H H' := hide_mono s
theorem Mv.put {p : Addr} {H : Hp} {o : HO} : Mv p H (L2.upd H p o) := hide_upd
theorem Sc.same {C p : Addr} {H H' : Hp} {x y : Str} {r : L} (h : Sc C H p x y r) (s : Same H H') : Sc C H' p x y r := by
  obtain ⟨i, dx, h1, h2⟩ := h
  exact ⟨i, dx, s _ _ h1, h2⟩
theorem Sc.ne {C p T : Addr} {H : Hp} {x y : Str} {r : L} (h : Sc C H p x y r) (n : H T = none) : T ≠ p := fun e => by
  obtain ⟨i, dx, h1, _⟩ := h
  rw [e, h1] at n
  cases n
theorem Sc.len {C p : Addr} {H : Hp} {x y : Str} {r : L} (h : Sc C H p x y r) : r.length ≤ 90000 := by
  obtain ⟨i, dx, h1, h2, h3, h4⟩ := h
  rw [← h2, List.length_drop, ← len_cs]
  omega
def RaisesU (E : XK) (CU : Addr) (y : Str) (H : Hp) : Prop := ∀ d, H d = none → E (.ref CU) (some d) (L2.upd H d (.xd [(("value" : Str), .str y)]))
def seesB (m : Str) (r : L) : Bool := (cs m).isPrefixOf r
def oneB (S : Str) (r : L) : Bool := match r with
  | [] => false
  | c :: _ => decide (c ∈ cs S)
def spSe (C : Addr) : Sp := fun vs H Q _ => ∃ (p : Addr) (x y m : Str) (r : L), vs = [.ref p, .str m] ∧ Sc C H p x y r ∧ Q (.bl (seesB m r)) H
def spSo (C : Addr) : Sp := fun vs H Q _ => ∃ (p : Addr) (x y m : Str) (r : L), vs = [.ref p, .str m] ∧ Sc C H p x y r ∧ Q (.bl (oneB m r)) H
def spAe (C : Addr) : Sp := fun vs H Q _ => ∃ (p : Addr) (x y : Str) (r : L), vs = [.ref p] ∧ Sc C H p x y r ∧ Q (.bl r.isEmpty) H
def spTa (C : Addr) : Sp := fun vs H Q _ => ∃ (p : Addr) (x y m : Str) (r : L), vs = [.ref p, .str m] ∧ Sc C H p x y r ∧ m.length ≤ 1000 ∧
  (seesB m r = true → ∀ H', Mv p H H' → Sc C H' p x y (r.drop (cs m).length) → Q (.bl true) H') ∧ (seesB m r = false → Q (.bl false) H)
def spNe (C CU : Addr) : Sp := fun vs H Q E => ∃ (p : Addr) (x y m : Str) (r : L), vs = [.ref p, .str m] ∧ Sc C H p x y r ∧ m.length ≤ 1000 ∧
  (seesB m r = true → ∀ H', Mv p H H' → Sc C H' p x y (r.drop (cs m).length) → Q .non H') ∧ (seesB m r = false → RaisesU E CU y H)
def spFa (C CU : Addr) : Sp := fun vs H Q E => ∃ (p : Addr) (x y : Str) (r : L), vs = [.ref p] ∧ Sc C H p x y r ∧ RaisesU E CU y H
def spRo (C : Addr) : Sp := fun vs H Q _ => ∃ (p : Addr) (x y m : Str) (r : L), vs = [.ref p, .str m] ∧ Sc C H p x y r ∧
  ∀ H', Mv p H H' → Sc C H' p x y (r.dropWhile fun c => decide (c ∈ cs m)) → Q (.str (st (r.takeWhile fun c => decide (c ∈ cs m)))) H'
def spSc (C : Addr) : Sp := fun vs H Q _ => ∃ (p dx : Addr) (x y : Str), vs = [.ref p, .str x, .str y] ∧ H p = some (.ins C dx []) ∧ x.length ≤ 90000 ∧
  ∀ H', Mv p H H' → Sc C H' p x y (cs x) → Q .non H'
theorem starts_at {x m : Str} {i : Nat} (hi : i ≤ x.length) : Txt.startswith3 x m (i : Nat) = seesB m ((cs x).drop i) := by
  have ef : fromIndex x.length ((i : Nat) : Int) = i := by
    show (max 0 (if ((i : Nat) : Int) < 0 then ((i : Nat) : Int) + (x.length : Nat) else ((i : Nat) : Int))).toNat = i
    rw [if_neg (by omega)]
    omega
  unfold Txt.startswith3 seesB
  rw [ef, StrLaws.subAt_eq]
  have hm : m.length = (cs m).length := len_cs m
  have hx : x.length = (cs x).length := len_cs x
  rw [Bool.eq_iff_iff, Bool.and_eq_true, decide_eq_true_iff, List.isPrefixOf_iff_prefix, beq_iff_eq, List.prefix_iff_eq_take]
  constructor
  · rintro ⟨_, h⟩
    rw [hm] at h
    exact h.symm
  · intro h
    refine ⟨?_, by rw [hm]; exact h.symm⟩
    have z := congrArg List.length h
    rw [List.length_take, List.length_drop] at z
    omega
section
variable {P : Program} {w : World} {K : Frag} {mg : Str → Option Value} {base : Heap}
abbrev sSe : Stmt := inClass (top 45) 3
abbrev nSe : List Str := ["self", "mark"]
theorem scSe : FnScope nSe ["self", "mark"] (defScope sSe) := ⟨rfl, rfl, rfl, by decide +kernel, rfl, by decide +kernel, by decide +kernel⟩
theorem has_Se {f C : Addr} {fd : FuncData} (F : Fun K "sees" "Scanner.sees" sSe f fd) (m : Meth K C "sees" f) (B : Blt mg) (T : Txt K mg C) :
    HasM P w K mg base C 1 "sees" ["self", "mark"] (spSe C) := by
  refine ⟨f, fd, m, F.binds (ps := ["self", "mark"]) (fun _ _ _ _ _ _ us hl => match us, hl with | [_, _], _ => rfl), F.ok scSe (fun vs H Q E h => ?_) (fun cdv A outer s H vs Q E hr h => ?_)⟩
  · obtain ⟨p, x, y, m, r, rfl, _⟩ := h
    rfl
  · refine ⟨_, (pss_one (ps_ret (pe_bm PySem.F.plainAttrs_str PySem.F.slot_str_startswith PySem.F.type_str_startswith mt_startswith3 (pe_fld (pv 0) rfl) (pa_cons (pv 1) (pa_cons (pe_fld (pv 0) rfl) pa_nil))))), ?_⟩
    obtain ⟨p, x, y, m, r, rfl, S, k⟩ := h
    obtain ⟨i, dx, hp, hr', hi, hl⟩ := S
    refine ⟨_, rfl, p, C, dx, _, _, rfl, hp, T.cl, T.nT, fl_text .., rfl, _, rfl, _, rfl, p, C, dx, _, _, rfl, hp, T.cl, T.nA, fl_atv .., x, m, _, rfl, rfl, ?_⟩
    rw [starts_at hi, hr']
    exact k
abbrev sSo : Stmt := inClass (top 45) 4
abbrev nSo : List Str := ["self", "some"]
theorem scSo : FnScope nSo ["self", "some"] (defScope sSo) := ⟨rfl, rfl, rfl, by decide +kernel, rfl, by decide +kernel, by decide +kernel⟩
theorem has_So {f C : Addr} {fd : FuncData} (F : Fun K "sees_one_of" "Scanner.sees_one_of" sSo f fd) (m : Meth K C "sees_one_of" f) (B : Blt mg) (T : Txt K mg C) :
    HasM P w K mg base C 1 "sees_one_of" ["self", "some"] (spSo C) := by
  refine ⟨f, fd, m, F.binds (ps := ["self", "some"]) (fun _ _ _ _ _ _ us hl => match us, hl with | [_, _], _ => rfl), F.ok scSo (fun vs H Q E h => ?_) (fun cdv A outer s H vs Q E hr h => ?_)⟩
  · obtain ⟨p, x, y, m, r, rfl, _⟩ := h
    rfl
  · refine ⟨_, (pss_one (ps_ret (pe_and (pe_cmpR op_lt (pe_fld (pv 0) rfl) (pe_callB call_len (by rfl) B.len PySem.boot_len (pa_cons (pe_fld (pv 0) rfl) pa_nil)) (nomark _)) (pe_one (pe_cmpR op_in_sign (pe_ix ix_str (pe_fld (pv 0) rfl) (pe_fld (pv 0) rfl) (fun _ _ => rfl)) (pv 1) (by rfl)))))), ?_⟩
    obtain ⟨p, x, y, m, r, rfl, S, k⟩ := h
    obtain ⟨i, dx, hp, hr', hi, hl⟩ := S
    refine ⟨_, rfl, p, C, dx, _, _, rfl, hp, T.cl, T.nA, fl_atv .., _, rfl, p, C, dx, _, _, rfl, hp, T.cl, T.nT, fl_text .., .str x, x.length, rfl, ⟨line_small (by omega), rfl⟩, _, _, rfl, rfl, ?_⟩
    refine ⟨_, rfl, ?_⟩
    by_cases c : i < x.length
    · obtain ⟨d, q, e⟩ : ∃ d q, r = d :: q := by
        cases e : r with
        | nil =>
          rw [e] at hr'
          have z := congrArg List.length hr'
          rw [List.length_drop, ← len_cs] at z
          have z' : x.length - i = 0 := z
          omega
        | cons d q => exact ⟨d, q, rfl⟩
      have hd : (cs x)[i]? = some d := by
        have z : ((cs x).drop i)[0]? = some d := by rw [hr', e]; rfl
        rw [List.getElem?_drop] at z
        exact z
      refine if_yes (decide_eq_true (by omega)) ⟨_, rfl, p, C, dx, _, _, rfl, hp, T.cl, T.nT, fl_text .., _, rfl, p, C, dx, _, _, rfl, hp, T.cl, T.nA, fl_atv .., x, i, d, rfl, rfl, line_small (by omega), atI_nat hd, _, rfl, d, m, rfl, rfl, ?_⟩
      rw [e] at k
      exact k
    · refine if_no (decide_eq_false (by omega)) ?_
      have e : r = [] := by
        rw [← hr']
        exact List.drop_eq_nil_of_le (by rw [← len_cs]; omega)
      rw [e] at k
      exact k
abbrev sAe : Stmt := inClass (top 45) 2
abbrev nAe : List Str := ["self"]
theorem scAe : FnScope nAe ["self"] (defScope sAe) := ⟨rfl, rfl, rfl, by decide +kernel, rfl, by decide +kernel, by decide +kernel⟩
theorem has_Ae {f C : Addr} {fd : FuncData} (F : Fun K "is_at_end" "Scanner.is_at_end" sAe f fd) (m : Meth K C "is_at_end" f) (B : Blt mg) (T : Txt K mg C) :
    HasM P w K mg base C 1 "is_at_end" ["self"] (spAe C) := by
  refine ⟨f, fd, m, F.binds (ps := ["self"]) (fun _ _ _ _ _ _ us hl => match us, hl with | [_], _ => rfl), F.ok scAe (fun vs H Q E h => ?_) (fun cdv A outer s H vs Q E hr h => ?_)⟩
  · obtain ⟨p, x, y, r, rfl, _⟩ := h
    rfl
  · refine ⟨_, (pss_one (ps_ret (pe_cmpR op_eq (pe_fld (pv 0) rfl) (pe_callB call_len (by rfl) B.len PySem.boot_len (pa_cons (pe_fld (pv 0) rfl) pa_nil)) (nomark _)))), ?_⟩
    obtain ⟨p, x, y, r, rfl, S, k⟩ := h
    obtain ⟨i, dx, hp, hr', hi, hl⟩ := S
    refine ⟨_, rfl, p, C, dx, _, _, rfl, hp, T.cl, T.nA, fl_atv .., _, rfl, p, C, dx, _, _, rfl, hp, T.cl, T.nT, fl_text .., .str x, x.length, rfl, ⟨line_small (by omega), rfl⟩, rfl, ?_⟩
    have e : r.isEmpty = decide (V.int (i : Nat) = V.int (x.length : Nat)) := by
      have lr : r.length = x.length - i := by rw [← hr', List.length_drop, ← len_cs]
      cases q : r with
      | nil =>
        rw [q] at lr
        have lr' : 0 = x.length - i := lr
        rw [show i = x.length by omega]
        simp
      | cons c l =>
        rw [q, List.length_cons] at lr
        symm
        refine decide_eq_false fun z => ?_
        have := V.int.inj z
        omega
    rw [e] at k
    exact k
end
end Qb
end PySem
namespace PySem
namespace Qb
open PySem.W PySem.Calls PyProof.Rows L2
theorem sees_len {m : Str} {r : L} (h : seesB m r = true) : (cs m).length ≤ r.length := by
  obtain ⟨q, e⟩ := List.isPrefixOf_iff_prefix.mp h
  rw [← e, List.length_append]
  omega
theorem tw_split {S q r : L} (hq : ∀ c ∈ q, c ∈ S) (hr : ∀ c l, r = c :: l → c ∉ S) : (q ++ r).takeWhile (fun c => decide (c ∈ S)) = q ∧ (q ++ r).dropWhile (fun c => decide (c ∈ S)) = r := by
  induction q with
  | nil =>
    cases r with
    | nil => exact ⟨rfl, rfl⟩
    | cons c r =>
      have n : ¬ decide (c ∈ S) = true := fun z => hr c r rfl (of_decide_eq_true z)
      exact ⟨List.takeWhile_cons_of_neg (p := fun c => decide (c ∈ S)) n, List.dropWhile_cons_of_neg (p := fun c => decide (c ∈ S)) n⟩
  | cons c l ih =>
    have z := ih fun d m => hq d (.tail _ m)
    have p : decide (c ∈ S) = true := decide_eq_true (hq c (.head _))
    exact ⟨by rw [List.cons_append, List.takeWhile_cons_of_pos (p := fun c => decide (c ∈ S)) p, z.1], by rw [List.cons_append, List.dropWhile_cons_of_pos (p := fun c => decide (c ∈ S)) p, z.2]⟩
section
variable {P : Program} {w : World} {K : Frag} {mg : Str → Option Value} {base : Heap}
abbrev sTa : Stmt := inClass (top 45) 5
abbrev nTa : List Str := ["self", "mark", "found"]
theorem scTa : FnScope nTa ["self", "mark"] (defScope sTa) := ⟨rfl, rfl, rfl, by decide +kernel, rfl, by decide +kernel, by decide +kernel⟩
theorem has_Ta {f C : Addr} {fd : FuncData} (F : Fun K "takes" "Scanner.takes" sTa f fd) (m : Meth K C "takes" f) (B : Blt mg) (T : Txt K mg C) (hSe : HasM P w K mg base C 1 "sees" ["self", "mark"] (spSe C)) :
    HasM P w K mg base C 2 "takes" ["self", "mark"] (spTa C) := by
  obtain ⟨fSe, dSe, mSe, bSe, GSe⟩ := hSe
  refine ⟨f, fd, m, F.binds (ps := ["self", "mark"]) (fun _ _ _ _ _ _ us hl => match us, hl with | [_, _], _ => rfl), F.ok scTa (fun vs H Q E h => ?_) (fun cdv A outer s H vs Q E hr h => ?_)⟩
  · obtain ⟨p, x, y, m, r, rfl, _⟩ := h
    rfl
  · refine ⟨_, (pss_cons (ps_set (i := 2) scTa.nd rfl (.inl rfl) (pe_meth (pv 0) T.cl mSe GSe hr bSe .nil pass0 (pa_cons (pv 1) pa_nil)))
        (pss_cons (ps_if (pt_val (pv 2)) (pss_one (ps_fldaug (pv 0) (pe_callB call_len (by rfl) B.len PySem.boot_len (pa_cons (pv 1) pa_nil)) in_add)) pss_nil)
        (pss_one (ps_ret (pv 2))))), ?_⟩
    obtain ⟨p, x, y, m, r, rfl, S, lm, k1, k0⟩ := h
    obtain ⟨i, dx, hp, hr', hi, hl⟩ := id S
    refine ⟨_, rfl, p, dx, _, rfl, hp, rfl, _, rfl, p, x, y, m, r, rfl, S, _, rfl, _, rfl, if_by (fun e => ?_) (fun e => ?_)⟩
    · have hs := sees_len e
      have ln : r.length = x.length - i := by rw [← hr', List.length_drop, ← len_cs]
      refine ⟨_, rfl, p, C, dx, _, _, rfl, hp, T.cl, T.nA, fl_atv .., _, rfl, .str m, m.length, rfl, ⟨line_small (by omega), rfl⟩, _, _, rfl, rfl, dx, _, hp, (by show 4 < 1000; decide), _, rfl, ?_⟩
      have e1 : putF ("at" : Str) (.int (((i : Nat) : Int) + ((m.length : Nat) : Int))) (fl x y i) = fl x y (i + m.length) := fl_at x y i (i + m.length)
      dsimp only
      rw [e1, e]
      refine k1 e _ Mv.put ⟨i + m.length, dx, upd_same, ?_, ?_, hl⟩
      · rw [← hr', List.drop_drop, len_cs m]
      · rw [len_cs m]
        omega
    · rw [e]
      exact ⟨_, rfl, k0 e⟩
abbrev sFa : Stmt := inClass (top 45) 9
abbrev nFa : List Str := ["self"]
theorem scFa : FnScope nFa ["self"] (defScope sFa) := ⟨rfl, rfl, rfl, by decide +kernel, rfl, by decide +kernel, by decide +kernel⟩
theorem has_Fa {f C : Addr} {fd : FuncData} {fI CU : Addr} (EGi : EG K fI) {mU : List Value} (TU : EC K mg fI "Unreadable" CU mU) {dI : FuncData} (GIn : FnOk P w K mg base CX0 1 fI dI ["self", "value"] (spInit K)) (bIn : Binds K dI ["self", "value"] []) (F : Fun K "fail" "Scanner.fail" sFa f fd) (m : Meth K C "fail" f) (B : Blt mg) (T : Txt K mg C) :
    HasMX P w K mg base C 3 "fail" ["self"] (spFa C CU) := by
  refine ⟨f, fd, m, F.binds (ps := ["self"]) (fun _ _ _ _ _ _ us hl => match us, hl with | [_], _ => rfl), F.okX scFa (fun vs H Q E h => ?_) (fun cdv A outer s H vs Q E hr h => ?_)⟩
  · obtain ⟨p, x, y, r, rfl, _⟩ := h
    rfl
  · refine ⟨_, (pss_one (ps_raise rfl (takes_of rfl rfl rfl rfl) (pmk_oex TU.oex TU.iC EGi.tI GIn (hr.mono (by decide)) bIn .nil pass0 (by rfl) TU.gC (by exact (pa_cons (pe_fld (pv 0) rfl) pa_nil))))), ?_⟩
    obtain ⟨p, x, y, r, rfl, S, k⟩ := h
    obtain ⟨i, dx, hp, hr', hi, hl⟩ := S
    exact ⟨_, rfl, p, C, dx, _, _, rfl, hp, T.cl, T.nW, fl_whole .., init_end TU.oex TU.no fun d nd => k d nd⟩
abbrev sNe : Stmt := inClass (top 45) 6
abbrev nNe : List Str := ["self", "mark"]
theorem scNe : FnScope nNe ["self", "mark"] (defScope sNe) := ⟨rfl, rfl, rfl, by decide +kernel, rfl, by decide +kernel, by decide +kernel⟩
theorem has_Ne {f C : Addr} {fd : FuncData} {CU : Addr} (F : Fun K "need" "Scanner.need" sNe f fd) (m : Meth K C "need" f) (B : Blt mg) (T : Txt K mg C) (hTa : HasM P w K mg base C 2 "takes" ["self", "mark"] (spTa C)) (hFa : HasMX P w K mg base C 3 "fail" ["self"] (spFa C CU)) :
    HasMX P w K mg base C 4 "need" ["self", "mark"] (spNe C CU) := by
  obtain ⟨fTa, dTa, mTa, bTa, GTa⟩ := hTa
  obtain ⟨fFa, dFa, mFa, bFa, GFa⟩ := hFa
  refine ⟨f, fd, m, F.binds (ps := ["self", "mark"]) (fun _ _ _ _ _ _ us hl => match us, hl with | [_, _], _ => rfl), F.okX scNe (fun vs H Q E h => ?_) (fun cdv A outer s H vs Q E hr h => ?_)⟩
  · obtain ⟨p, x, y, m, r, rfl, _⟩ := h
    rfl
  · refine ⟨_, (pss_one (ps_if (pt_not (pt_val (pe_meth (pv 0) T.cl mTa GTa (hr.mono (by decide)) bTa .nil pass0 (pa_cons (pv 1) pa_nil)))) (pss_one (ps_expr (pe_meth0 (pv 0) T.cl mFa GFa hr bFa .nil (pass_of (takes_of rfl rfl rfl rfl))))) pss_nil)), ?_⟩
    obtain ⟨p, x, y, m, r, rfl, S, lm, k1, k0⟩ := h
    obtain ⟨i, dx, hp, hr', hi, hl⟩ := id S
    refine ⟨_, rfl, p, dx, _, rfl, hp, rfl, _, rfl, p, x, y, m, r, rfl, S, lm, fun e H' mv S' => ⟨_, rfl, if_no rfl (k1 e H' mv S')⟩, fun e => ⟨_, rfl, if_yes rfl ?_⟩⟩
    exact ⟨_, rfl, p, dx, _, rfl, hp, rfl, p, x, y, r, rfl, S, k0 e⟩
abbrev sRo : Stmt := inClass (top 45) 7
abbrev nRo : List Str := ["self", "some", "start"]
theorem scRo : FnScope nRo ["self", "some"] (defScope sRo) := ⟨rfl, rfl, rfl, by decide +kernel, rfl, by decide +kernel, by decide +kernel⟩
theorem has_Ro {f C : Addr} {fd : FuncData} (F : Fun K "row_of" "Scanner.row_of" sRo f fd) (m : Meth K C "row_of" f) (B : Blt mg) (T : Txt K mg C) (hSo : HasM P w K mg base C 1 "sees_one_of" ["self", "some"] (spSo C)) :
    HasM P w K mg base C 2 "row_of" ["self", "some"] (spRo C) := by
  obtain ⟨fSo, dSo, mSo, bSo, GSo⟩ := hSo
  refine ⟨f, fd, m, F.binds (ps := ["self", "some"]) (fun _ _ _ _ _ _ us hl => match us, hl with | [_, _], _ => rfl), F.ok scRo (fun vs H Q E h => ?_) (fun cdv A outer s H vs Q E hr h => ?_)⟩
  · obtain ⟨p, x, y, m, r, rfl, _⟩ := h
    rfl
  · refine ⟨_, (pss_cons (ps_set (i := 2) scRo.nd rfl (.inl rfl) (pe_fld (pv 0) rfl))
        (pss_cons (ps_while PassesOwn.never (pt_val (pe_meth (pv 0) T.cl mSo GSo hr bSo .nil pass0 (pa_cons (pv 1) pa_nil))) (pss_one (ps_fldaug (pv 0) pe_int in_add)))
        (pss_one (ps_ret (pe_slice sl_str (pe_fld (pv 0) rfl) (po_some (pv 2)) (po_some (pe_fld (pv 0) rfl))))))), ?_⟩
    obtain ⟨p, x, y, m, r, rfl, S, k⟩ := h
    obtain ⟨i, dx, hp, hr', hi, hl⟩ := id S
    refine ⟨_, rfl, p, C, dx, _, _, rfl, hp, T.cl, T.nA, fl_atv .., ?_⟩
    refine while_n (fun n σ H' => ∃ (q r' : L) (dx' : Addr), σ = [some (.ref p), some (.str m), some (.int (i : Nat))] ∧ Mv p H H' ∧ H' p = some (.ins C dx' (fl x y (i + q.length))) ∧ r = q ++ r' ∧ (∀ c ∈ q, c ∈ cs m) ∧ n = r'.length) r.length ⟨[], r, dx, rfl, Mv.refl, hp, rfl, (fun c h => by cases h), rfl⟩ (fun n σ H' e => ?_)
    obtain ⟨q, r', dx', rfl, mv, hp', er, hq, rfl⟩ := e
    have ln : r.length = x.length - i := by rw [← hr', List.length_drop, ← len_cs]
    have lq : q.length + r'.length = x.length - i := by rw [← ln, er, List.length_append]
    have hr2 : (cs x).drop (i + q.length) = r' := by rw [← List.drop_drop, hr', er, List.drop_left]
    have S' : Sc C H' p x y r' := ⟨i + q.length, dx', hp', hr2, by omega, hl⟩
    refine ⟨_, rfl, p, dx', _, rfl, hp', rfl, _, rfl, p, x, y, m, r', rfl, S', _, rfl, if_by (fun e => ?_) (fun e => ?_)⟩
    · obtain ⟨c, l, rfl⟩ : ∃ c l, r' = c :: l := by
        cases r' with
        | nil => cases e
        | cons c l => exact ⟨c, l, rfl⟩
      have hc : c ∈ cs m := of_decide_eq_true e
      refine ⟨_, fun σ' H' z => z, ?_⟩
      refine ⟨_, rfl, p, C, dx', _, _, rfl, hp', T.cl, T.nA, fl_atv .., _, _, rfl, rfl, dx', _, hp', (by show 4 < 1000; decide), l.length, by simp, q ++ [c], l, dx', rfl, mv.trans Mv.put, ?_, by rw [er]; simp, ?_, rfl⟩
      · rw [upd_same]
        have e1 : putF ("at" : Str) (.int (((i + q.length : Nat) : Int) + 1)) (fl x y (i + q.length)) = fl x y (i + (q ++ [c]).length) := by
          rw [List.length_append]
          exact fl_at x y (i + q.length) (i + (q.length + 1))
        rw [e1]
      · intro d md
        rcases List.mem_append.mp md with md | md
        · exact hq d md
        · rw [List.mem_singleton.mp md]
          exact hc
    · have key : ∀ c l, r' = c :: l → c ∉ cs m := fun c l e2 => by
        rw [e2] at e
        exact of_decide_eq_false e
      have two : r.takeWhile (fun c => decide (c ∈ cs m)) = q ∧ r.dropWhile (fun c => decide (c ∈ cs m)) = r' := by
        rw [er]
        exact tw_split hq key
      refine ⟨_, rfl, p, C, dx', _, _, rfl, hp', T.cl, T.nT, fl_text .., _, rfl, _, rfl, _, rfl, p, C, dx', _, _, rfl, hp', T.cl, T.nA, fl_atv .., _, rfl, x, rfl, line_small (by omega), ?_⟩
      have ec : cutS x (some ((i : Nat) : Int)) (some ((i + q.length : Nat) : Int)) = st q := str_of (by
        show ((cs x).drop (HT.sIx x.length 0 (some ((i : Nat) : Int)))).take (HT.sIx x.length x.length (some ((i + q.length : Nat) : Int)) - HT.sIx x.length 0 (some ((i : Nat) : Int))) = q
        rw [HT.sIx_nat, HT.sIx_nat, Nat.min_eq_left (by omega), Nat.min_eq_left (by omega), hr', er, show i + q.length - i = q.length by omega, List.take_left])
      rw [ec]
      have z := k H' mv (by rw [two.2]; exact S')
      rw [two.1] at z
      exact z
abbrev sSc : Stmt := inClass (top 45) 0
abbrev nSc : List Str := ["self", "text", "whole"]
theorem scSc : FnScope nSc ["self", "text", "whole"] (defScope sSc) := ⟨rfl, rfl, rfl, by decide +kernel, rfl, by decide +kernel, by decide +kernel⟩
theorem ok_Sc {f C : Addr} {fd : FuncData} (F : Fun K "__init__" "Scanner.__init__" sSc f fd) (T : Txt K mg C) : FnOk P w K mg base CX0 1 f fd ["self", "text", "whole"] (spSc C) := by
  refine F.ok scSc (fun vs H Q E h => ?_) (fun cdv A outer s H vs Q E hr h => ?_)
  · obtain ⟨p, dx, x, y, rfl, _⟩ := h
    rfl
  · refine ⟨_, (pss_cons (ps_fld (pv 0) (pv 1) rfl)
        (pss_cons (ps_fld (pv 0) (pv 2) rfl)
        (pss_cons (ps_fld (pv 0) pe_int rfl)
        (pss_one (ps_fld (pv 0) (pe_un un_neg pe_int) rfl))))), ?_⟩
    obtain ⟨p, dx, x, y, rfl, hp, hl, k⟩ := h
    have f1 : putF ("text" : Str) (.str x) [] = [(("text" : Str), V.str x)] := rfl
    have f2 : putF ("whole" : Str) (.str y) [(("text" : Str), V.str x)] = [(("text" : Str), V.str x), (("whole" : Str), V.str y)] := by
      show (if ("text" : Str) = "whole" then _ else _) = _
      rw [if_neg (by decide +kernel)]
      rfl
    have f3 : putF ("at" : Str) (.int 0) [(("text" : Str), V.str x), (("whole" : Str), V.str y)] = [(("text" : Str), V.str x), (("whole" : Str), V.str y), (("at" : Str), V.int 0)] := by
      show (if ("text" : Str) = "at" then _ else (("text" : Str), V.str x) :: (if ("whole" : Str) = "at" then _ else _)) = _
      rw [if_neg (by decide +kernel), if_neg (by decide +kernel)]
      rfl
    have f4 : putF ("word_end" : Str) (.int (-1)) [(("text" : Str), V.str x), (("whole" : Str), V.str y), (("at" : Str), V.int 0)] = fl x y 0 := by
      show (if ("text" : Str) = "word_end" then _ else (("text" : Str), V.str x) :: (if ("whole" : Str) = "word_end" then _ else (("whole" : Str), V.str y) :: (if ("at" : Str) = "word_end" then _ else _))) = _
      rw [if_neg (by decide +kernel), if_neg (by decide +kernel), if_neg (by decide +kernel)]
      rfl
    refine ⟨_, rfl, _, rfl, p, C, dx, _, rfl, hp, T.cl, T.nT, by decide, ?_⟩
    rw [f1]
    refine ⟨_, rfl, _, rfl, p, C, dx, _, rfl, upd_same, T.cl, T.nW, (by show 1 < 1000; decide), ?_⟩
    rw [f2, upd_upd]
    refine ⟨_, rfl, p, C, dx, _, rfl, upd_same, T.cl, T.nA, (by show 2 < 1000; decide), ?_⟩
    rw [f3, upd_upd]
    refine ⟨_, rfl, _, rfl, p, C, dx, _, rfl, upd_same, T.cl, T.nE, (by show 3 < 1000; decide), ?_⟩
    rw [upd_upd]
    have z := k _ Mv.put ⟨0, dx, upd_same, rfl, Nat.zero_le _, hl⟩
    rw [← f4] at z
    exact z
end
end Qb
end PySem
namespace PySem
namespace Qb
open PySem.W PySem.Calls PyProof.Rows L2
/-! # signs, places, digits -/
def Out {α : Type} (C CU p : Addr) (x y : Str) (H : Hp) (Q : VK) (E : XK) (good : α → V → Hp → Prop) (o : Option (α × L)) : Prop :=
  (∀ a r2, o = some (a, r2) → ∀ H' v, Mv p H H' → Sc C H' p x y r2 → good a v H' → Q v H') ∧ (o = none → ∀ H', Mv p H H' → RaisesU E CU y H')
theorem Out.mv {α : Type} {C CU p : Addr} {x y : Str} {H H1 : Hp} {Q : VK} {E : XK} {good : α → V → Hp → Prop} {o : Option (α × L)} (h : Out C CU p x y H Q E good o) (m : Mv p H H1) : Out C CU p x y H1 Q E good o :=
  ⟨fun a r2 e H' v m' S g => h.1 a r2 e H' v (m.trans m') S g, fun e H' m' => h.2 e H' (m.trans m')⟩
def signOf (r : L) : Str := match tpSign r with
  | none => ""
  | some q => q.1
def spTs (C : Addr) : Sp := fun vs H Q _ => ∃ (p : Addr) (x y : Str) (r : L), vs = [.ref p] ∧ Sc C H p x y r ∧ Q (.str (signOf r)) H
def gTxt : L → V → Hp → Prop := fun d v _ => v = .str (st d)
def spDg (C CU : Addr) : Sp := fun vs H Q E => ∃ (p : Addr) (x y : Str) (r : L), vs = [.ref p] ∧ Sc C H p x y r ∧ Out C CU p x y H Q E gTxt (rdDig r)
def spPc (C CU : Addr) : Sp := fun vs H Q E => ∃ (p : Addr) (x y : Str) (r : L), vs = [.ref p] ∧ Sc C H p x y r ∧ Out C CU p x y H Q E gTxt (rdPlc r)
theorem seesB_tpk {q : Str × L} (h : q ∈ tpk) (r : L) : seesB q.1 r = q.2.isPrefixOf r := by
  unfold seesB
  rw [tpk_cs q h]
section
variable {P : Program} {w : World} {K : Frag} {mg : Str → Option Value} {base : Heap}
abbrev sTs : Stmt := top 50
abbrev nTs : List Str := ["scanner", "sign"]
theorem scTs : FnScope nTs ["scanner"] (defScope sTs) := ⟨rfl, rfl, rfl, by decide +kernel, rfl, by decide +kernel, by decide +kernel⟩
theorem has_Ts {f C : Addr} {fd : FuncData} (F : Fun K "two_part_sign" "two_part_sign" sTs f fd) (g : mg "two_part_sign" = some (.ref f)) (W : Wrt K w mg) (T : Txt K mg C) (hSe : HasM P w K mg base C 1 "sees" ["self", "mark"] (spSe C)) :
    Has P w K mg base 2 "two_part_sign" ["scanner"] (spTs C) := by
  obtain ⟨fSe, dSe, mSe, bSe, GSe⟩ := hSe
  obtain ⟨pP, gP, sP⟩ := W.tps
  refine has_of F g (F.binds (ps := ["scanner"]) fun _ _ _ _ _ _ us hl => match us, hl with | [_], _ => rfl) (F.ok scTs (fun vs H Q E h => ?_) (fun cdv A outer s H vs Q E hr h => ?_))
  · obtain ⟨p, x, y, r, rfl, _⟩ := h
    rfl
  · refine ⟨_, (pss_cons (ps_for PassesOwn.never rfl (pi_tup (pe_glob (v := .ref pP) (by rfl) gP rfl)) (pg_name (i := 1) scTs.nd rfl (.inl rfl))
          (pss_one (ps_if (pt_val (pe_meth (pv 0) T.cl mSe GSe hr bSe .nil pass0 (pa_cons (pv 1) pa_nil))) (pss_one (ps_ret (pv 1))) pss_nil)))
        (pss_one (ps_ret pe_str))), ?_⟩
    obtain ⟨p, x, y, r, rfl, S, k⟩ := h
    obtain ⟨i, dx, hp, _⟩ := id S
    refine ⟨pP, rfl, ⟨_, sP H⟩, for_tup (xs := tpW.map V.str) (fun j σ H' => (∃ z, σ = [some (.ref p), z]) ∧ H' = H ∧ ∀ q ∈ tpk.take j, q.2.isPrefixOf r = false) ⟨⟨_, rfl⟩, rfl, fun q m => by cases m⟩ (fun j σ H' _ e => sP H') (fun j v σ H' hv e => ?_) (fun σ H' e => ?_)⟩
    · obtain ⟨⟨z, rfl⟩, rfl, no⟩ := e
      obtain ⟨q, hq, rfl⟩ : ∃ q, tpk[j]? = some q ∧ v = .str q.1 := by
        rw [tpW_eq, List.map_map, List.getElem?_map] at hv
        cases e : tpk[j]? with
        | none => rw [e] at hv; cases hv
        | some q => rw [e] at hv; exact ⟨q, rfl, (Option.some.inj hv).symm⟩
      have mq : q ∈ tpk := List.mem_of_getElem? hq
      refine ⟨_, rfl, p, dx, _, rfl, hp, rfl, _, rfl, p, x, y, q.1, r, rfl, S, _, rfl, ?_⟩
      rw [seesB_tpk mq]
      refine if_by (fun e => ?_) (fun e => ?_)
      · refine ⟨_, rfl, ?_⟩
        have es : signOf r = q.1 := by
          have ef : tpSign r = some q := by
            unfold tpSign
            rw [List.find?_eq_some_iff_getElem]
            obtain ⟨hj, ej⟩ := List.getElem?_eq_some_iff.mp hq
            refine ⟨e, j, hj, ej, fun k hk => ?_⟩
            have := no (tpk[k]'(by omega)) (List.mem_take_iff_getElem.mpr ⟨k, by omega, rfl⟩)
            simpa using this
          unfold signOf
          rw [ef]
        rw [es] at k
        exact k
      · refine ⟨⟨_, rfl⟩, rfl, fun q' m => ?_⟩
        rw [take_snoc hq] at m
        rcases List.mem_append.mp m with m | m
        · exact no q' m
        · rw [List.mem_singleton.mp m]
          exact e
    · obtain ⟨⟨z, rfl⟩, rfl, no⟩ := e
      have ef : tpSign r = none := by
        unfold tpSign
        rw [List.find?_eq_none]
        intro q m
        have := no q (by rw [show (tpW.map V.str).length = tpk.length by rfl, List.take_length]; exact m)
        intro z
        rw [this] at z
        cases z
      unfold signOf at k
      rw [ef] at k
      exact k
abbrev sDg : Stmt := top 54
abbrev nDg : List Str := ["scanner", "digits"]
theorem scDg : FnScope nDg ["scanner"] (defScope sDg) := ⟨rfl, rfl, rfl, by decide +kernel, rfl, by decide +kernel, by decide +kernel⟩
theorem has_Dg {f C CU : Addr} {fd : FuncData} (F : Fun K "digits_at" "digits_at" sDg f fd) (g : mg "digits_at" = some (.ref f)) (B : Blt mg) (W : Wrt K w mg) (T : Txt K mg C) (hRo : HasM P w K mg base C 2 "row_of" ["self", "some"] (spRo C)) (hFa : HasMX P w K mg base C 3 "fail" ["self"] (spFa C CU)) :
    HasX P w K mg base 4 "digits_at" ["scanner"] (spDg C CU) := by
  obtain ⟨fRo, dRo, mRo, bRo, GRo⟩ := hRo
  obtain ⟨fFa, dFa, mFa, bFa, GFa⟩ := hFa
  refine hasX_of F g (F.binds (ps := ["scanner"]) fun _ _ _ _ _ _ us hl => match us, hl with | [_], _ => rfl) (F.okX scDg (fun vs H Q E h => ?_) (fun cdv A outer s H vs Q E hr h => ?_))
  · obtain ⟨p, x, y, r, rfl, _⟩ := h
    rfl
  · refine ⟨_, (pss_cons (ps_set (i := 1) scDg.nd rfl (.inl rfl) (pe_meth (pv 0) T.cl mRo GRo (hr.mono (by decide)) bRo .nil pass0 (pa_cons (glob_str (by rfl) W.dig) pa_nil)))
        (pss_cons (ps_if (PW.pt (pw_or (pt_cmpR op_eq (pv 1) pe_str (nomark _)) (pw_or1 (PW.pt (pw_and (pt_cmpR op_eq (pe_ix ix_str (pv 1) pe_int (fun _ _ => rfl)) pe_str (nomark _)) (pw_and1 (pt_cmpR op_gt (pe_callB call_len (by rfl) B.len PySem.boot_len (pa_cons (pv 1) pa_nil)) pe_int (nomark _)))))))) (pss_one (ps_expr (pe_meth0 (pv 0) T.cl mFa GFa hr bFa .nil (pass_of (takes_of rfl rfl rfl rfl))))) pss_nil)
        (pss_one (ps_ret (pv 1))))), ?_⟩
    obtain ⟨p, x, y, r, rfl, S, k1, k0⟩ := h
    obtain ⟨i, dx, hp, _⟩ := id S
    have hc : (fun c => decide (c ∈ cs digS)) = (fun c => decide (c ∈ digC)) := by rw [cs_dig]
    refine ⟨_, rfl, p, dx, _, rfl, hp, rfl, p, x, y, digS, r, rfl, S, fun H1 m1 S1 => ?_⟩
    rw [hc] at S1 ⊢
    have ld : (r.takeWhile fun c => decide (c ∈ digC)).length ≤ 90000 := Nat.le_trans (tw_le r) S.len
    generalize ed : (r.takeWhile fun c => decide (c ∈ digC)) = d at ld ⊢
    have bad : (d = [] ∨ (d.head? = some 48 ∧ 1 < d.length)) → rdDig r = none := fun z => by
      unfold rdDig
      dsimp only
      rw [ed, if_pos z]
    have fine : ¬(d = [] ∨ (d.head? = some 48 ∧ 1 < d.length)) → rdDig r = some (d, r.dropWhile fun c => decide (c ∈ digC)) := fun z => by
      unfold rdDig
      dsimp only
      rw [ed, if_neg z]
    obtain ⟨i1, dx1, hp1, _⟩ := id S1
    have bye : rdDig r = none → RaisesU E CU y H1 := fun z => k0 z H1 m1
    have run : ∀ {σ : L2.St} {D : Ends}, rdDig r = none → σ = [some (.ref p), some (.str (st d))] → True := fun _ _ => trivial
    refine ⟨_, rfl, rfl, _, rfl, ?_⟩
    by_cases h0 : d = []
    · subst h0
      refine if_yes (show decide (V.str (st []) = V.str ("" : Str)) = true by decide +kernel) ?_
      refine if_yes rfl ?_
      exact ⟨_, rfl, p, dx1, _, rfl, hp1, rfl, p, x, y, _, rfl, S1, bye (bad (.inl rfl))⟩
    · obtain ⟨c, l, rfl⟩ : ∃ c l, d = c :: l := by
        cases d with
        | nil => exact (h0 rfl).elim
        | cons c l => exact ⟨c, l, rfl⟩
      refine if_no (decide_eq_false fun z => by
        have y := congrArg cs (V.str.inj z)
        rw [cs_st] at y
        cases y) ?_
      have ac : atI (cs (st (c :: l))) 0 = some c := atI_nat (j := 0) (by rw [cs_st]; rfl)
      refine ⟨_, rfl, st (c :: l), 0, c, rfl, rfl, line_small (by rw [len_st]; omega), ac, rfl, _, rfl, ?_⟩
      have q48 : decide (V.str (⟨#[c]⟩ : Str) = V.str ("0" : Str)) = (c == 48) := by
        by_cases e : c = 48
        · subst e
          decide +kernel
        · rw [beq_eq_false_iff_ne.mpr e]
          refine decide_eq_false fun z => e ?_
          have y : cs (⟨#[c]⟩ : Str) = cs ("0" : Str) := congrArg cs (V.str.inj z)
          have w : cs ("0" : Str) = [48] := by decide +kernel
          rw [w] at y
          exact (List.cons.inj y).1
      rw [q48]
      have good : ∀ {Z : Prop}, ¬((c :: l) = [] ∨ ((c :: l).head? = some 48 ∧ 1 < (c :: l).length)) → (Q (.str (st (c :: l))) H1 → Z) → Z := fun z kz => kz (k1 _ _ (fine z) H1 _ m1 S1 rfl)
      by_cases e : c = 48
      · subst e
        refine if_yes (by decide) ⟨_, rfl, .str (st (48 :: l)), (48 :: l).length, rfl, ⟨line_small (by rw [len_st]; omega), by rw [len_st]⟩, _, _, rfl, rfl, _, rfl, ?_⟩
        by_cases e1 : 1 < (48 :: l).length
        · refine if_yes (decide_eq_true (by show (1 : Int) < ((48 :: l).length : Nat); omega)) ?_
          exact ⟨_, rfl, p, dx1, _, rfl, hp1, rfl, p, x, y, _, rfl, S1, bye (bad (.inr ⟨rfl, e1⟩))⟩
        · refine if_no (decide_eq_false (by show ¬ (1 : Int) < ((48 :: l).length : Nat); omega)) ⟨_, rfl, good ?_ id⟩
          rintro (z | ⟨_, z⟩)
          · cases z
          · exact e1 z
      · refine if_no (by simpa using e) (if_no rfl ⟨_, rfl, good ?_ id⟩)
        rintro (z | ⟨z, _⟩)
        · cases z
        · exact e (Option.some.inj z)
end
end Qb
end PySem
namespace PySem
namespace Qb
open PySem.W PySem.Calls PyProof.Rows L2
/-! # the parts of the reading -/
def wc (c : Nat) : Nat := if c = 40 then 4 else if c ∈ [45, 33, 63, 58, 38, 124, 60, 62, 61, 42, 47, 94, 43] then 1 else 0
def wt (r : L) : Nat := (r.map wc).sum
theorem wt_app (a b : L) : wt (a ++ b) = wt a + wt b := by
  unfold wt
  rw [List.map_append, List.sum_append]
theorem wt_cons (c : Nat) (b : L) : wt (c :: b) = wc c + wt b := wt_app [c] b
theorem tpk_wt : ∀ p ∈ tpk, 1 ≤ wt p.2 := by decide +kernel
theorem Ate.wt {r r' : L} {l : Nat} {t : Sm} {p : L} (A : Ate r l t p r') : wt r' ≤ wt r := by
  rw [A.eq, wt_app]
  omega
theorem Ate.rn {k : Nat} {r r' : L} {l : Nat} {t : Sm} {p : L} (A : Ate r l t p r') (h : Rn k r) : Rn k r' := by
  rw [A.eq] at h
  exact h.tail
def gTree (K : Frag) (p : Addr) : Sm → V → Hp → Prop := fun t v H => Dp K (hide H p) v t.d
def spRd (K : Frag) (C CU : Addr) (need : Nat) (rd : Rd) : Sp := fun vs H Q E => ∃ (p : Addr) (x y : Str) (r : L), vs = [.ref p] ∧ Sc C H p x y r ∧ Rn 80 r ∧ wt r + 1 ≤ need ∧ Out C CU p x y H Q E (gTree K p) (rd r)
def spTw (K : Frag) (C CU : Addr) (need : Nat) (rd : Nat → Rd) : Sp := fun vs H Q E => ∃ (p : Addr) (x y : Str) (r : L) (l : Nat), vs = [.ref p, .int (l : Nat)] ∧ Sc C H p x y r ∧ Rn 80 r ∧ wt r + 1 ≤ need ∧ l ≤ 8 ∧ Out C CU p x y H Q E (gTree K p) (rd l r)
abbrev spPl (K : Frag) (C CU : Addr) (n : Nat) : Sp := spRd K C CU n (rds n).plain
abbrev spAh (K : Frag) (C CU : Addr) (n : Nat) : Sp := spRd K C CU (n - 1) (rds n).ahead
abbrev spTwn (K : Frag) (C CU : Addr) (n : Nat) : Sp := spTw K C CU (n - 2) (rds n).two
abbrev spSu (K : Frag) (C CU : Addr) (n : Nat) : Sp := spRd K C CU (n - 3) (rds n).sum
theorem dp_mv {K : Frag} {p : Addr} {H H' : Hp} {v : V} {d : PyData} (h : Dp K (hide H p) v d) (m : Mv p H H') : Dp K (hide H' p) v d := dp_same m h
/-- a tuple of trees is made -/
theorem mk_tup {K : Frag} {p T : Addr} {H : Hp} {vs : List V} {ds : List PyData} (n : H T = none) (ne : T ≠ p) (h : DpAll K (hide H p) vs ds) : Dp K (hide (L2.upd H T (.tup vs)) p) (.ref T) (.tuple ds) :=
  .tup (SqT.of (hide_ne upd_same ne)) (dpAll_same (hide_mono (same_upd n)) h)
section
variable {P : Program} {w : World} {K : Frag} {mg : Str → Option Value} {base : Heap}
abbrev sPc : Stmt := top 53
abbrev nPc : List Str := ["scanner", "sign"]
theorem scPc : FnScope nPc ["scanner"] (defScope sPc) := ⟨rfl, rfl, rfl, by decide +kernel, rfl, by decide +kernel, by decide +kernel⟩
theorem has_Pc {f C CU : Addr} {fd : FuncData} (F : Fun K "place_at" "place_at" sPc f fd) (g : mg "place_at" = some (.ref f)) (T : Txt K mg C) (hTa : HasM P w K mg base C 2 "takes" ["self", "mark"] (spTa C)) (hDg : HasX P w K mg base 4 "digits_at" ["scanner"] (spDg C CU)) :
    HasX P w K mg base 5 "place_at" ["scanner"] (spPc C CU) := by
  obtain ⟨fTa, dTa, mTa, bTa, GTa⟩ := hTa
  obtain ⟨fDg, dDg, gDg, kDg, bDg, GDg⟩ := hDg
  refine hasX_of F g (F.binds (ps := ["scanner"]) fun _ _ _ _ _ _ us hl => match us, hl with | [_], _ => rfl) (F.okX scPc (fun vs H Q E h => ?_) (fun cdv A outer s H vs Q E hr h => ?_))
  · obtain ⟨p, x, y, r, rfl, _⟩ := h
    rfl
  · refine ⟨_, (pss_cons (ps_for (passes_of rfl) rfl (pi_tup (pe_tup (pa_cons pe_str (pa_cons pe_str pa_nil)))) (pg_name (i := 1) scPc.nd rfl (.inl rfl))
          (pss_one (ps_if (pt_val (pe_meth (pv 0) T.cl mTa GTa (hr.mono (by decide)) bTa .nil pass0 (pa_cons (pv 1) pa_nil))) (pss_one (ps_ret (pv 1))) pss_nil)))
        (pss_one (ps_ret (pe_callS GDg hr rfl gDg kDg bDg (fun σ => passAt (takes_of rfl rfl rfl rfl) σ) (by exact (pa_cons (pv 0) pa_nil)))))), ?_⟩
    obtain ⟨p, x, y, r, rfl, S, k1, k0⟩ := h
    refine ⟨(by decide : 2 ≤ sizeLine), fun T0 nT => ?_⟩
    have s1 := same_upd (o := .tup [.str "#", .str "?"]) nT
    have S1 := S.same s1
    have m1 : Mv p H _ := Mv.same s1
    have hT : (L2.upd H T0 (.tup [.str "#", .str "?"])) T0 = some (.tup (([("#" : Str), "?"]).map V.str)) := upd_same
    generalize L2.upd H T0 (.tup [.str "#", .str "?"]) = H1 at s1 S1 m1 hT ⊢
    have c35 : seesB ("#" : Str) r = true → ∃ l, r = 35 :: l := fun e => by
      obtain ⟨q, z⟩ := List.isPrefixOf_iff_prefix.mp e
      exact ⟨q, by rw [← z, show cs ("#" : Str) = [35] by decide +kernel]; rfl⟩
    have c63 : seesB ("?" : Str) r = true → ∃ l, r = 63 :: l := fun e => by
      obtain ⟨q, z⟩ := List.isPrefixOf_iff_prefix.mp e
      exact ⟨q, by rw [← z, show cs ("?" : Str) = [63] by decide +kernel]; rfl⟩
    refine ⟨T0, rfl, ⟨_, SqT.of hT⟩, for_tup (xs := ([("#" : Str), "?"]).map V.str) (fun j σ H' => (∃ z, σ = [some (.ref p), z]) ∧ H' = H1 ∧ (1 ≤ j → seesB ("#" : Str) r = false) ∧ (2 ≤ j → seesB ("?" : Str) r = false)) ⟨⟨_, rfl⟩, rfl, fun z => by omega, fun z => by omega⟩ (fun j σ H' _ e => by rw [e.2.1]; exact SqT.of hT) (fun j v σ H' hv e => ?_) (fun σ H' e => ?_)⟩
    · obtain ⟨⟨z, rfl⟩, rfl, n1, n2⟩ := e
      obtain ⟨i, dx, hp, _⟩ := id S1
      rcases j with _ | _ | j
      · obtain rfl := Option.some.inj hv
        refine ⟨_, rfl, p, dx, _, rfl, hp, rfl, _, rfl, p, x, y, "#", r, rfl, S1, by decide, fun e H2 m2 S2 => ⟨_, rfl, if_yes rfl ⟨_, rfl, ?_⟩⟩, fun e => ⟨_, rfl, if_no rfl ⟨⟨_, rfl⟩, rfl, fun _ => e, fun z => by omega⟩⟩⟩
        obtain ⟨l, rfl⟩ := c35 e
        exact k1 [35] l rfl H2 _ (m1.trans m2) S2 (show V.str ("#" : Str) = V.str (st [35]) by decide +kernel)
      · obtain rfl := Option.some.inj hv
        refine ⟨_, rfl, p, dx, _, rfl, hp, rfl, _, rfl, p, x, y, "?", r, rfl, S1, by decide, fun e H2 m2 S2 => ⟨_, rfl, if_yes rfl ⟨_, rfl, ?_⟩⟩, fun e => ⟨_, rfl, if_no rfl ⟨⟨_, rfl⟩, rfl, fun _ => n1 (by omega), fun _ => e⟩⟩⟩
        obtain ⟨l, rfl⟩ := c63 e
        exact k1 [63] l rfl H2 _ (m1.trans m2) S2 (show V.str ("?" : Str) = V.str (st [63]) by decide +kernel)
      · cases hv
    · obtain ⟨⟨z, rfl⟩, rfl, n1, n2⟩ := e
      have a1 := n1 (by decide)
      have a2 := n2 (by decide)
      have er : rdPlc r = rdDig r := by
        unfold rdPlc
        split
        · exact absurd a1 (by simp [seesB, show cs ("#" : Str) = [35] by decide +kernel])
        · exact absurd a2 (by simp [seesB, show cs ("?" : Str) = [63] by decide +kernel])
        · rfl
      rw [er] at k1 k0
      exact ⟨_, rfl, p, x, y, r, rfl, S1, (Out.mv ⟨k1, k0⟩ m1)⟩
end
end Qb
end PySem
namespace PySem
namespace Qb
open PySem.W PySem.Calls PyProof.Rows L2
theorem digVal_eq (d : L) : NumText.digitsVal d = digVal d := by
  unfold NumText.digitsVal digVal
  simp [Nat.mul_comm]
theorem int_of {d : L} (hn : d ≠ []) (ha : ∀ c ∈ d, c ∈ digC) (hl : d.length ≤ 80) : PySem.intText? (st d) = some ((digVal d : Nat) : Int) := by
  have e := cs_st d
  have z := intText_digits (x := st d) (fun c m => by
    have m' : c ∈ cs (st d) := m
    rw [e] at m'
    exact (by decide : ∀ c ∈ digC, 48 ≤ c ∧ c ≤ 57) c (ha c m')) (by rw [show (st d).cps.toList = d from e]; exact hn) (by rw [len_st]; omega)
  rw [show (st d).cps.toList = d from e, digVal_eq] at z
  exact z
theorem plainF_40n {sum : Rd} {r1 : L} (h : ∀ t l, sum r1 ≠ some (t, 41 :: l)) : plainF sum (40 :: r1) = none := by
  show (match sum r1 with
    | some (t, 41 :: r2) => some (t, r2)
    | _ => none) = _
  split
  · rename_i t l e
    exact (h _ _ e).elim
  · rfl
theorem plainF_36n {sum : Rd} {r1 : L} (h : rdPlc r1 = none) : plainF sum (36 :: r1) = none := by
  show (match rdPlc r1 with
    | none => none
    | some (w, r2) => some (Sm.of (st w), r2)) = _
  rw [h]
theorem plainF_else {sum : Rd} {r : L} (h1 : ∀ l, r ≠ 40 :: l) (h2 : ∀ l, r ≠ 36 :: l) : plainF sum r = if oneB staS r = true then some (.of (st (r.takeWhile fun d => decide (d ∈ namC))), r.dropWhile fun d => decide (d ∈ namC)) else match rdDig r with
    | none => none
    | some (d, r2) => some (.num (digVal d), r2) := by
  unfold plainF
  split
  · exact (h1 _ rfl).elim
  · exact (h2 _ rfl).elim
  · rename_i c l _ _
    by_cases hc : c ∈ staC
    · rw [if_pos hc, if_pos (show oneB staS (c :: l) = true from decide_eq_true hc)]
    · rw [if_neg hc, if_neg (show ¬ oneB staS (c :: l) = true from fun z => hc (of_decide_eq_true z))] <;> rfl
  · rfl
theorem sees_one {m : Str} {c : Nat} (hm : cs m = [c]) {r : L} : (seesB m r = true → ∃ l, r = c :: l) ∧ (seesB m r = false → ∀ l, r ≠ c :: l) := by
  constructor
  · intro e
    obtain ⟨q, z⟩ := List.isPrefixOf_iff_prefix.mp e
    exact ⟨q, by rw [← z, hm]; rfl⟩
  · rintro e l rfl
    unfold seesB at e
    rw [hm] at e
    simp at e
section
variable {P : Program} {w : World} {K : Frag} {mg : Str → Option Value} {base : Heap}
abbrev sPl : Stmt := top 52
abbrev nPl : List Str := ["scanner", "tree"]
theorem scPl : FnScope nPl ["scanner"] (defScope sPl) := ⟨rfl, rfl, rfl, by decide +kernel, rfl, by decide +kernel, by decide +kernel⟩
theorem ok_Pl {f C CU : Addr} {fd : FuncData} (F : Fun K "plain_at" "plain_at" sPl f fd) (B : Blt mg) (W : Wrt K w mg) (T : Txt K mg C) (hTa : HasM P w K mg base C 2 "takes" ["self", "mark"] (spTa C)) (hNe : HasMX P w K mg base C 4 "need" ["self", "mark"] (spNe C CU)) (hPc : HasX P w K mg base 5 "place_at" ["scanner"] (spPc C CU)) (hSo : HasM P w K mg base C 1 "sees_one_of" ["self", "some"] (spSo C)) (hRo : HasM P w K mg base C 2 "row_of" ["self", "some"] (spRo C)) (hDg : HasX P w K mg base 4 "digits_at" ["scanner"] (spDg C CU))
    {n : Nat} {fSu : Addr} {dSu : FuncData} (gSu : mg "sum_at" = some (.ref fSu)) (kSu : PySem.W.keepIn K (.ref fSu) = true) (bSu : Binds K dSu ["scanner"] []) (GSu : FnOk P w K mg base (L2.CX P w) (n + 6) fSu dSu ["scanner"] (spSu K C CU n)) :
    FnOk P w K mg base (L2.CX P w) (n + 7) f fd ["scanner"] (spPl K C CU (n + 1)) := by
  obtain ⟨fTa, dTa, mTa, bTa, GTa⟩ := hTa
  obtain ⟨fNe, dNe, mNe, bNe, GNe⟩ := hNe
  obtain ⟨fPc, dPc, gPc, kPc, bPc, GPc⟩ := hPc
  obtain ⟨fSo, dSo, mSo, bSo, GSo⟩ := hSo
  obtain ⟨fRo, dRo, mRo, bRo, GRo⟩ := hRo
  obtain ⟨fDg, dDg, gDg, kDg, bDg, GDg⟩ := hDg
  refine F.okX scPl (fun vs H Q E h => ?_) (fun cdv A outer s H vs Q E hr h => ?_)
  · obtain ⟨p, x, y, r, rfl, _⟩ := h
    rfl
  · refine ⟨_, (pss_cons (ps_if (pt_val (pe_meth (pv 0) T.cl mTa GTa (hr.mono (by omega)) bTa .nil pass0 (pa_cons pe_str pa_nil))) (pss_cons (ps_set (i := 1) scPl.nd rfl (.inl rfl) (pe_callS GSu (hr.mono (by omega)) rfl gSu kSu bSu (fun σ => passAt (takes_of rfl rfl rfl rfl) σ) (by exact (pa_cons (pv 0) pa_nil))))
          (pss_cons (ps_expr (pe_meth (pv 0) T.cl mNe GNe (hr.mono (by omega)) bNe .nil (pass_of (takes_of rfl rfl rfl rfl)) (pa_cons pe_str pa_nil)))
          (pss_one (ps_ret (pv 1))))) pss_nil)
        (pss_cons (ps_if (pt_val (pe_meth (pv 0) T.cl mTa GTa (hr.mono (by omega)) bTa .nil pass0 (pa_cons pe_str pa_nil))) (pss_one (ps_ret (pe_tup (pa_cons pe_str (pa_cons (pe_callS GPc (hr.mono (by omega)) rfl gPc kPc bPc (fun σ => passAt (takes_of rfl rfl rfl rfl) σ) (by exact (pa_cons (pv 0) pa_nil))) pa_nil))))) pss_nil)
        (pss_cons (ps_if (pt_val (pe_meth (pv 0) T.cl mSo GSo (hr.mono (by omega)) bSo .nil pass0 (pa_cons (glob_str (by rfl) W.sta) pa_nil))) (pss_one (ps_ret (pe_tup (pa_cons pe_str (pa_cons (pe_meth (pv 0) T.cl mRo GRo (hr.mono (by omega)) bRo .nil pass0 (pa_cons (glob_str (by rfl) W.nam) pa_nil)) pa_nil))))) pss_nil)
        (pss_one (ps_ret (pe_tup (pa_cons pe_str (pa_cons (pe_callTy call_int_str (by rfl) B.int (by decide +kernel) (pa_cons (pe_callS GDg (hr.mono (by omega)) rfl gDg kDg bDg (fun σ => passAt (takes_of rfl rfl rfl rfl) σ) (by exact (pa_cons (pv 0) pa_nil))) pa_nil)) pa_nil)))))))), ?_⟩
    obtain ⟨p, x, y, r, rfl, S, rn, hw, O⟩ := h
    obtain ⟨k1, k0⟩ : Out C CU p x y H Q E (gTree K p) (plainF (rds n).sum r) := O
    obtain ⟨i, dx, hp, _⟩ := id S
    refine ⟨_, rfl, p, dx, _, rfl, hp, rfl, p, x, y, "(", r, rfl, S, by decide, fun e H1 m1 S1 => ⟨_, rfl, if_yes rfl ?_⟩, fun e => ⟨_, rfl, if_no rfl ?_⟩⟩
    · obtain ⟨l, rfl⟩ := (sees_one (c := 40) (by decide +kernel)).1 e
      have S1' : Sc C H1 p x y l := S1
      have hwl : wt (40 :: l) = 4 + wt l := wt_cons 40 l
      refine ⟨_, rfl, p, x, y, l, rfl, S1', rn.tail (p := [40]), by omega, fun t r2 et H2 v m2 S2 gd => ?_, fun et H2 m2 => k0 (plainF_40n fun t l z => by rw [et] at z; cases z) H2 (m1.trans m2)⟩
      obtain ⟨i2, dx2, hp2, _⟩ := id S2
      refine ⟨_, rfl, p, dx2, _, rfl, hp2, rfl, p, x, y, ")", r2, rfl, S2, by decide, fun e2 H3 m3 S3 => ⟨_, rfl, ?_⟩, fun e2 => ?_⟩
      · obtain ⟨l2, rfl⟩ := (sees_one (c := 41) (by decide +kernel)).1 e2
        exact k1 t l2 (plainF_40 et) H3 v ((m1.trans m2).trans m3) S3 (dp_mv gd m3)
      · refine k0 (plainF_40n fun t' l z => ?_) H2 (m1.trans m2)
        rw [et] at z
        cases z
        exact (sees_one (c := 41) (by decide +kernel)).2 e2 _ rfl
    have n40 := (sees_one (c := 40) (by decide +kernel)).2 e
    refine ⟨_, rfl, p, dx, _, rfl, hp, rfl, p, x, y, "$", r, rfl, S, by decide, fun e H1 m1 S1 => ⟨_, rfl, if_yes rfl ?_⟩, fun e => ⟨_, rfl, if_no rfl ?_⟩⟩
    · obtain ⟨l, rfl⟩ := (sees_one (c := 36) (by decide +kernel)).1 e
      have S1' : Sc C H1 p x y l := S1
      refine ⟨_, rfl, p, x, y, l, rfl, S1', fun d r2 ed H2 v m2 S2 gd => ?_, fun ed H2 m2 => k0 (plainF_36n ed) H2 (m1.trans m2)⟩
      subst gd
      refine ⟨(by decide : 2 ≤ sizeLine), fun T0 nT => ?_⟩
      have ne := S2.ne nT
      exact k1 (.of (st d)) r2 (plainF_36 ed) _ _ ((m1.trans m2).trans (Mv.same (same_upd nT))) (S2.same (same_upd nT)) (mk_tup nT ne (.cons (.str _) (.cons (.str _) .nil)))
    have n36 := (sees_one (c := 36) (by decide +kernel)).2 e
    have ep := plainF_else (sum := (rds n).sum) n40 n36
    refine ⟨_, rfl, p, dx, _, rfl, hp, rfl, p, x, y, staS, r, rfl, S, _, rfl, if_by (fun e => ?_) (fun e => ?_)⟩
    · rw [e, if_pos rfl] at ep
      refine ⟨_, rfl, p, dx, _, rfl, hp, rfl, p, x, y, namS, r, rfl, S, fun H1 m1 S1 => ?_⟩
      refine ⟨(by decide : 2 ≤ sizeLine), fun T0 nT => ?_⟩
      have ne := S1.ne nT
      exact k1 _ _ ep _ _ (m1.trans (Mv.same (same_upd nT))) (S1.same (same_upd nT)) (mk_tup nT ne (.cons (.str _) (.cons (.str _) .nil)))
    · rw [e, if_neg (by decide)] at ep
      refine ⟨_, rfl, p, x, y, r, rfl, S, fun d r2 ed H2 v m2 S2 gd => ?_, fun ed H2 m2 => k0 (by rw [ep, ed]) H2 m2⟩
      subst gd
      obtain ⟨a, b, c⟩ := dig_ate (k := 0) ed
      have ld : d.length ≤ 80 := rn [] d r2 a c
      refine ⟨st d, _, rfl, int_of (fun z => by rw [z] at b; exact absurd b (by decide)) c ld, by rw [len_st]; omega, ?_⟩
      refine ⟨(by decide : 2 ≤ sizeLine), fun T0 nT => ?_⟩
      have ne := S2.ne nT
      exact k1 (.num (digVal d)) r2 (by rw [ep, ed]) _ _ (m2.trans (Mv.same (same_upd nT))) (S2.same (same_upd nT)) (mk_tup nT ne (.cons (.str _) (.cons (.int _) .nil)))
abbrev sAh : Stmt := top 51
abbrev nAh : List Str := ["scanner", "tree"]
theorem scAh : FnScope nAh ["scanner"] (defScope sAh) := ⟨rfl, rfl, rfl, by decide +kernel, rfl, by decide +kernel, by decide +kernel⟩
theorem ok_Ah {f C CU : Addr} {fd : FuncData} (F : Fun K "ahead_at" "ahead_at" sAh f fd) (gAh : mg "ahead_at" = some (.ref f)) (bAh : Binds K fd ["scanner"] []) (T : Txt K mg C) (hTa : HasM P w K mg base C 2 "takes" ["self", "mark"] (spTa C)) (hRo : HasM P w K mg base C 2 "row_of" ["self", "some"] (spRo C))
    {n : Nat} {fPl : Addr} {dPl : FuncData} (gPl : mg "plain_at" = some (.ref fPl)) (kPl : PySem.W.keepIn K (.ref fPl) = true) (bPl : Binds K dPl ["scanner"] []) (GPl : FnOk P w K mg base (L2.CX P w) (n + 6) fPl dPl ["scanner"] (spPl K C CU n)) (GAh : FnOk P w K mg base (L2.CX P w) (n + 6) f fd ["scanner"] (spAh K C CU n)) :
    FnOk P w K mg base (L2.CX P w) (n + 7) f fd ["scanner"] (spAh K C CU (n + 1)) := by
  obtain ⟨fTa, dTa, mTa, bTa, GTa⟩ := hTa
  obtain ⟨fRo, dRo, mRo, bRo, GRo⟩ := hRo
  have kAh := F.kp
  refine F.okX scAh (fun vs H Q E h => ?_) (fun cdv A outer s H vs Q E hr h => ?_)
  · obtain ⟨p, x, y, r, rfl, _⟩ := h
    rfl
  · refine ⟨_, (pss_cons (ps_expr (pe_meth (pv 0) T.cl mRo GRo (hr.mono (by omega)) bRo .nil pass0 (pa_cons pe_str pa_nil)))
        (pss_cons (ps_if (pt_val (pe_meth (pv 0) T.cl mTa GTa (hr.mono (by omega)) bTa .nil pass0 (pa_cons pe_str pa_nil))) (pss_one (ps_ret (pe_tup (pa_cons pe_str (pa_cons (pe_callS GAh (hr.mono (by omega)) rfl gAh kAh bAh (fun σ => passAt (takes_of rfl rfl rfl rfl) σ) (by exact (pa_cons (pv 0) pa_nil))) pa_nil))))) pss_nil)
        (pss_cons (ps_if (pt_val (pe_meth (pv 0) T.cl mTa GTa (hr.mono (by omega)) bTa .nil pass0 (pa_cons pe_str pa_nil))) (pss_one (ps_ret (pe_tup (pa_cons pe_str (pa_cons (pe_callS GAh (hr.mono (by omega)) rfl gAh kAh bAh (fun σ => passAt (takes_of rfl rfl rfl rfl) σ) (by exact (pa_cons (pv 0) pa_nil))) pa_nil))))) pss_nil)
        (pss_cons (ps_set (i := 1) scAh.nd rfl (.inl rfl) (pe_callS GPl (hr.mono (by omega)) rfl gPl kPl bPl (fun σ => passAt (takes_of rfl rfl rfl rfl) σ) (by exact (pa_cons (pv 0) pa_nil))))
        (pss_cons (ps_expr (pe_meth (pv 0) T.cl mRo GRo (hr.mono (by omega)) bRo .nil pass0 (pa_cons pe_str pa_nil)))
        (pss_one (ps_ret (pv 1)))))))), ?_⟩
    obtain ⟨p, x, y, r, rfl, S, rn, hw, O⟩ := h
    obtain ⟨k1, k0⟩ : Out C CU p x y H Q E (gTree K p) (aheadF (rds n).ahead (rds n).plain r) := O
    obtain ⟨i, dx, hp, _⟩ := id S
    have hws : (fun c => decide (c ∈ cs (" \n" : Str))) = (fun c => decide (c ∈ wsC)) := by rw [show cs (" \n" : Str) = wsC by decide +kernel]
    obtain ⟨q0, e0⟩ := spc_pre r
    have rn1 : Rn 80 (spc r) := by rw [e0] at rn; exact rn.tail
    have hw1 : wt (spc r) ≤ wt r := by
      have z := congrArg wt e0
      rw [wt_app] at z
      omega
    refine ⟨_, rfl, p, dx, _, rfl, hp, rfl, p, x, y, " \n", r, rfl, S, fun H1 m1 S1 => ?_⟩
    rw [hws] at S1
    have S1 : Sc C H1 p x y (spc r) := S1
    obtain ⟨i1, dx1, hp1, _⟩ := id S1
    have sg : ∀ (s : Str) (c : Nat) (l : L), 1 ≤ wc c → spc r = c :: l → (aheadF (rds n).ahead (rds n).plain r = match (rds n).ahead l with
        | none => none
        | some (t, r2) => some (.one s t, r2)) → ∀ H2, Mv p H1 H2 → Sc C H2 p x y l → spAh K C CU n ([.ref p] ++ []) H2 (fun v H3 => [V.str s, v].length ≤ sizeLine ∧ ∀ T0, H3 T0 = none → Q (.ref T0) (L2.upd H3 T0 (.tup [.str s, v]))) E := by
      intro s c l hc el ea H2 m2 S2
      have hwl : wt (spc r) = wc c + wt l := by rw [el]; exact wt_cons c l
      refine ⟨p, x, y, l, rfl, S2, by rw [el] at rn1; exact rn1.tail (p := [c]), by omega, fun t r2 et H3 v m3 S3 gd => ⟨(by decide : 2 ≤ sizeLine), fun T0 nT => ?_⟩, fun et H3 m3 => k0 (by rw [ea, et]) H3 ((m1.trans m2).trans m3)⟩
      have ne := S3.ne nT
      exact k1 (.one s t) r2 (by rw [ea, et]) _ _ (((m1.trans m2).trans m3).trans (Mv.same (same_upd nT))) (S3.same (same_upd nT)) (mk_tup nT ne (.cons (.str _) (.cons gd .nil)))
    refine ⟨_, rfl, p, dx1, _, rfl, hp1, rfl, p, x, y, "-", spc r, rfl, S1, by decide, fun e H2 m2 S2 => ⟨_, rfl, if_yes rfl ?_⟩, fun e => ⟨_, rfl, if_no rfl ?_⟩⟩
    · obtain ⟨l, el⟩ := (sees_one (c := 45) (by decide +kernel)).1 e
      rw [el] at S2
      refine ⟨_, rfl, sg "minus" 45 l (by decide) el ?_ H2 m2 S2⟩
      unfold aheadF
      rw [el]
      rfl
    have n45 := (sees_one (c := 45) (by decide +kernel)).2 e
    refine ⟨_, rfl, p, dx1, _, rfl, hp1, rfl, p, x, y, "!", spc r, rfl, S1, by decide, fun e H2 m2 S2 => ⟨_, rfl, if_yes rfl ?_⟩, fun e => ⟨_, rfl, if_no rfl ?_⟩⟩
    · obtain ⟨l, el⟩ := (sees_one (c := 33) (by decide +kernel)).1 e
      rw [el] at S2
      refine ⟨_, rfl, sg "no" 33 l (by decide) el ?_ H2 m2 S2⟩
      unfold aheadF
      rw [el]
      rfl
    have n33 := (sees_one (c := 33) (by decide +kernel)).2 e
    have ea : aheadF (rds n).ahead (rds n).plain r = match (rds n).plain (spc r) with
        | none => none
        | some (t, r2) => some (t, spc r2) := by
      unfold aheadF
      split
      · rename_i e; exact (n45 _ e).elim
      · rename_i e; exact (n33 _ e).elim
      · rfl
    refine ⟨_, rfl, p, x, y, spc r, rfl, S1, rn1, by omega, fun t r2 et H2 v m2 S2 gd => ?_, fun et H2 m2 => k0 (by rw [ea, et]) H2 (m1.trans m2)⟩
    obtain ⟨i2, dx2, hp2, _⟩ := id S2
    refine ⟨_, rfl, p, dx2, _, rfl, hp2, rfl, p, x, y, " \n", r2, rfl, S2, fun H3 m3 S3 => ?_⟩
    rw [hws] at S3
    exact ⟨_, rfl, k1 t (spc r2) (by rw [ea, et]) H3 v ((m1.trans m2).trans m3) S3 (dp_mv gd m3)⟩
end
end Qb
end PySem
namespace PySem
namespace Qb
open PySem.W PySem.Calls PyProof.Rows L2
theorem loopW_stop {two : Nat → Rd} {m l : Nat} {t : Sm} {r : L} (h : ∀ q, tpSign r = some q → ¬ l ≤ rk q.1) : loopW two (m + 1) l t r = some (t, r) := by
  unfold loopW
  cases e : tpSign r with
  | none => rfl
  | some q =>
    dsimp only
    rw [if_neg (h q e)]
theorem loopW_step {two : Nat → Rd} {m l : Nat} {t : Sm} {r : L} {q : Str × L} (h : tpSign r = some q) (hl : l ≤ rk q.1) : loopW two (m + 1) l t r = match two (rk q.1 + 1) (r.drop q.2.length) with
    | none => none
    | some (u, r2) => loopW two m l (.two q.1 t u) r2 := by
  have e : loopW two (m + 1) l t r = match tpSign r with
    | none => some (t, r)
    | some p => if l ≤ rk p.1 then (match two (rk p.1 + 1) (r.drop p.2.length) with
        | none => none
        | some (u, r2) => loopW two m l (.two p.1 t u) r2) else some (t, r) := rfl
  rw [e, h]
  dsimp only
  rw [if_pos hl]
theorem sumF_n1 {sum : Rd} {two : Nat → Rd} {r : L} (h1 : two 2 r = none) : sumF sum two r = none := by
  unfold sumF
  rw [h1]
theorem sumF_1 {sum : Rd} {two : Nat → Rd} {r r1 : L} {t : Sm} (h1 : two 2 r = some (t, r1)) (h : ∀ l, r1 ≠ 63 :: l) : sumF sum two r = some (t, r1) := by
  unfold sumF
  rw [h1]
  split
  · rename_i e; cases e
  · rename_i e
    cases e
    exact (h _ rfl).elim
  · rename_i e
    cases e
    rfl
theorem sumF_n2 {sum : Rd} {two : Nat → Rd} {r r2 : L} {t : Sm} (h1 : two 2 r = some (t, 63 :: r2)) (h2 : ∀ a l, sum r2 ≠ some (a, 58 :: l)) : sumF sum two r = none := by
  unfold sumF
  rw [h1]
  show (match sum r2 with
    | some (a, 58 :: r3) => (match sum r3 with
      | none => none
      | some (b, r4) => some (Sm.three "choose" t a b, r4))
    | _ => none) = _
  split
  · rename_i e; exact (h2 _ _ e).elim
  · rfl
theorem sumF_n3 {sum : Rd} {two : Nat → Rd} {r r2 r3 : L} {t a : Sm} (h1 : two 2 r = some (t, 63 :: r2)) (h2 : sum r2 = some (a, 58 :: r3)) (h3 : sum r3 = none) : sumF sum two r = none := by
  unfold sumF
  rw [h1]
  show (match sum r2 with
    | some (a, 58 :: r3) => (match sum r3 with
      | none => none
      | some (b, r4) => some (Sm.three "choose" t a b, r4))
    | _ => none) = _
  rw [h2]
  show (match sum r3 with
      | none => none
      | some (b, r4) => some (Sm.three "choose" t a b, r4)) = _
  rw [h3]
section
variable {P : Program} {w : World} {K : Frag} {mg : Str → Option Value} {base : Heap}
abbrev sSu : Stmt := top 48
abbrev nSu : List Str := ["scanner", "test", "one"]
theorem scSu : FnScope nSu ["scanner"] (defScope sSu) := ⟨rfl, rfl, rfl, by decide +kernel, rfl, by decide +kernel, by decide +kernel⟩
theorem ok_Su {f C CU : Addr} {fd : FuncData} (F : Fun K "sum_at" "sum_at" sSu f fd) (gSu : mg "sum_at" = some (.ref f)) (bSu : Binds K fd ["scanner"] []) (W : Wrt K w mg) (T : Txt K mg C) (hTa : HasM P w K mg base C 2 "takes" ["self", "mark"] (spTa C)) (hNe : HasMX P w K mg base C 4 "need" ["self", "mark"] (spNe C CU))
    {n : Nat} {fTw : Addr} {dTw : FuncData} (gTw : mg "two_parts_at" = some (.ref fTw)) (kTw : PySem.W.keepIn K (.ref fTw) = true) (bTw : Binds K dTw ["scanner", "least"] []) (GTw : FnOk P w K mg base (L2.CX P w) (n + 6) fTw dTw ["scanner", "least"] (spTwn K C CU n)) (GSu : FnOk P w K mg base (L2.CX P w) (n + 6) f fd ["scanner"] (spSu K C CU n)) :
    FnOk P w K mg base (L2.CX P w) (n + 7) f fd ["scanner"] (spSu K C CU (n + 1)) := by
  obtain ⟨fTa, dTa, mTa, bTa, GTa⟩ := hTa
  obtain ⟨fNe, dNe, mNe, bNe, GNe⟩ := hNe
  have kSu := F.kp
  obtain ⟨is, itw, _, _⟩ := rds_ate (k := 80) (Nat.le_refl _) n
  refine F.okX scSu (fun vs H Q E h => ?_) (fun cdv A outer s H vs Q E hr h => ?_)
  · obtain ⟨p, x, y, r, rfl, _⟩ := h
    rfl
  · refine ⟨_, (pss_cons (ps_set (i := 1) scSu.nd rfl (.inl rfl) (pe_callS GTw (hr.mono (by omega)) rfl gTw kTw bTw (fun σ => passAt (takes_of rfl rfl rfl rfl) σ) (by exact (pa_cons (pv 0) (pa_cons (pe_op op_add (glob_int (by rfl) W.cr) pe_int) pa_nil)))))
        (pss_cons (ps_if (pt_not (pt_val (pe_meth (pv 0) T.cl mTa GTa (hr.mono (by omega)) bTa .nil pass0 (pa_cons pe_str pa_nil)))) (pss_one (ps_ret (pv 1))) pss_nil)
        (pss_cons (ps_set (i := 2) scSu.nd rfl (.inl rfl) (pe_callS GSu (hr.mono (by omega)) rfl gSu kSu bSu (fun σ => passAt (takes_of rfl rfl rfl rfl) σ) (by exact (pa_cons (pv 0) pa_nil))))
        (pss_cons (ps_expr (pe_meth (pv 0) T.cl mNe GNe (hr.mono (by omega)) bNe .nil (pass_of (takes_of rfl rfl rfl rfl)) (pa_cons pe_str pa_nil)))
        (pss_one (ps_ret (pe_tup (pa_cons pe_str (pa_cons (pv 1) (pa_cons (pv 2) (pa_cons (pe_callS GSu (hr.mono (by omega)) rfl gSu kSu bSu (fun σ => passAt (takes_of rfl rfl rfl rfl) σ) (by exact (pa_cons (pv 0) pa_nil))) pa_nil))))))))))), ?_⟩
    obtain ⟨p, x, y, r, rfl, S, rn, hw, O⟩ := h
    obtain ⟨k1, k0⟩ : Out C CU p x y H Q E (gTree K p) (sumF (rds n).sum (rds n).two r) := O
    refine ⟨_, rfl, _, _, rfl, rfl, p, x, y, r, 2, rfl, S, rn, by omega, by decide, fun t r1 et H1 v m1 S1 gd => ?_, fun et H1 m1 => k0 (sumF_n1 et) H1 m1⟩
    obtain ⟨⟨q, A1⟩, _⟩ := itw 2 r t r1 (by decide) rn et
    have w1 := A1.wt
    have rn1 := A1.rn rn
    obtain ⟨i1, dx1, hp1, _⟩ := id S1
    refine ⟨_, rfl, p, dx1, _, rfl, hp1, rfl, p, x, y, "?", r1, rfl, S1, by decide, fun e H2 m2 S2 => ⟨_, rfl, if_no rfl ?_⟩, fun e => ⟨_, rfl, if_yes rfl ⟨_, rfl, ?_⟩⟩⟩
    · obtain ⟨r2, rfl⟩ := (sees_one (c := 63) (by decide +kernel)).1 e
      have S2 : Sc C H2 p x y r2 := S2
      have w2' : wt (63 :: r2) = 1 + wt r2 := wt_cons 63 r2
      have rn2 : Rn 80 r2 := rn1.tail (p := [63])
      refine ⟨_, rfl, p, x, y, r2, rfl, S2, rn2, by omega, fun a r3 ea H3 u m3 S3 gu => ?_, fun ea H3 m3 => k0 (sumF_n2 et fun a l z => by rw [ea] at z; cases z) H3 ((m1.trans m2).trans m3)⟩
      obtain ⟨q2, A2⟩ := is r2 a r3 rn2 ea
      have w3 := A2.wt
      obtain ⟨i3, dx3, hp3, _⟩ := id S3
      refine ⟨_, rfl, p, dx3, _, rfl, hp3, rfl, p, x, y, ":", r3, rfl, S3, by decide, fun e3 H4 m4 S4 => ?_, fun e3 => ?_⟩
      · obtain ⟨r4, rfl⟩ := (sees_one (c := 58) (by decide +kernel)).1 e3
        have S4 : Sc C H4 p x y r4 := S4
        have w4 : wt (58 :: r4) = 1 + wt r4 := wt_cons 58 r4
        have rn4 : Rn 80 r4 := (A2.rn rn2).tail (p := [58])
        refine ⟨_, rfl, _, rfl, _, rfl, p, x, y, r4, rfl, S4, rn4, by omega, fun b r5 eb H5 z m5 S5 gz => ⟨(by decide : 4 ≤ sizeLine), fun T0 nT => ?_⟩, fun eb H5 m5 => k0 (sumF_n3 et ea eb) H5 ((((m1.trans m2).trans m3).trans m4).trans m5)⟩
        have ne := S5.ne nT
        exact k1 (.three "choose" t a b) r5 (sumF_63 et ea eb) _ _ (((((m1.trans m2).trans m3).trans m4).trans m5).trans (Mv.same (same_upd nT))) (S5.same (same_upd nT))
          (mk_tup nT ne (.cons (.str _) (.cons (dp_mv gd (((m2.trans m3).trans m4).trans m5)) (.cons (dp_mv gu (m4.trans m5)) (.cons gz .nil)))))
      · refine k0 (sumF_n2 et fun a' l z => ?_) H3 ((m1.trans m2).trans m3)
        rw [ea] at z
        cases z
        exact (sees_one (c := 58) (by decide +kernel)).2 e3 _ rfl
    · exact k1 t r1 (sumF_1 et ((sees_one (c := 63) (by decide +kernel)).2 e)) H1 v m1 S1 gd
abbrev sTw : Stmt := top 49
abbrev nTw : List Str := ["scanner", "least", "tree", "sign"]
theorem scTw : FnScope nTw ["scanner", "least"] (defScope sTw) := ⟨rfl, rfl, rfl, by decide +kernel, rfl, by decide +kernel, by decide +kernel⟩
theorem ok_Tw {f C CU : Addr} {fd : FuncData} (F : Fun K "two_parts_at" "two_parts_at" sTw f fd) (gTw : mg "two_parts_at" = some (.ref f)) (bTw : Binds K fd ["scanner", "least"] []) (W : Wrt K w mg) (T : Txt K mg C) (hTs : Has P w K mg base 2 "two_part_sign" ["scanner"] (spTs C)) (hNe : HasMX P w K mg base C 4 "need" ["self", "mark"] (spNe C CU))
    {n : Nat} {fAh : Addr} {dAh : FuncData} (gAh : mg "ahead_at" = some (.ref fAh)) (kAh : PySem.W.keepIn K (.ref fAh) = true) (bAh : Binds K dAh ["scanner"] []) (GAh : FnOk P w K mg base (L2.CX P w) (n + 6) fAh dAh ["scanner"] (spAh K C CU n)) (GTw : FnOk P w K mg base (L2.CX P w) (n + 6) f fd ["scanner", "least"] (spTwn K C CU n)) :
    FnOk P w K mg base (L2.CX P w) (n + 7) f fd ["scanner", "least"] (spTwn K C CU (n + 1)) := by
  obtain ⟨fTs, dTs, gTs, kTs, bTs, GTs⟩ := hTs
  obtain ⟨fNe, dNe, mNe, bNe, GNe⟩ := hNe
  obtain ⟨dR, eR, nR, gR, DR, ns⟩ := W.rks
  have kTw := F.kp
  obtain ⟨_, itw, iah, _⟩ := rds_ate (k := 80) (Nat.le_refl _) n
  refine F.okX scTw (fun vs H Q E h => ?_) (fun cdv A outer s H vs Q E hr h => ?_)
  · obtain ⟨p, x, y, r, l, rfl, _⟩ := h
    rfl
  · refine ⟨_, (pss_cons (ps_set (i := 2) scTw.nd rfl (.inl rfl) (pe_callS GAh (hr.mono (by omega)) rfl gAh kAh bAh (fun σ => passAt (takes_of rfl rfl rfl rfl) σ) (by exact (pa_cons (pv 0) pa_nil))))
        (pss_cons (ps_set (i := 3) scTw.nd rfl (.inl rfl) (pe_call GTs (hr.mono (by omega)) rfl gTs kTs bTs .nil pass0 (pa_cons (pv 0) pa_nil)))
        (pss_cons (ps_while (passes_of rfl) (PW.pt (pw_and (pt_cmpR op_ne (pv 3) pe_str (nomark _)) (pw_and1 (pt_cmpR op_ge (pe_ix ix_kdict (pe_glob (v := .ref dR) (by rfl) gR rfl) (pv 3) (fun _ _ => rfl)) (pv 1) (nomark _))))) (pss_cons (ps_expr (pe_meth (pv 0) T.cl mNe GNe (hr.mono (by omega)) bNe .nil (pass_of (takes_of rfl rfl rfl rfl)) (pa_cons (pv 3) pa_nil)))
          (pss_cons (ps_set (i := 2) scTw.nd rfl (.inl rfl) (pe_tup (pa_cons (pv 3) (pa_cons (pv 2) (pa_cons (pe_callS GTw (hr.mono (by omega)) rfl gTw kTw bTw (fun σ => passAt (takes_of rfl rfl rfl rfl) σ) (by exact (pa_cons (pv 0) (pa_cons (pe_op op_add (pe_ix ix_kdict (pe_glob (v := .ref dR) (by rfl) gR rfl) (pv 3) (fun _ _ => rfl)) pe_int) pa_nil)))) pa_nil)))))
          (pss_one (ps_set (i := 3) scTw.nd rfl (.inl rfl) (pe_call GTs (hr.mono (by omega)) rfl gTs kTs bTs .nil pass0 (pa_cons (pv 0) pa_nil)))))))
        (pss_one (ps_ret (pv 2)))))), ?_⟩
    obtain ⟨p, x, y, r, l, rfl, S, rn, hw, hl, O⟩ := h
    obtain ⟨k1, k0⟩ : Out C CU p x y H Q E (gTree K p) (twoF (rds n).two (rds n).ahead l r) := O
    have e2 : ∀ t r1, (rds n).ahead r = some (t, r1) → twoF (rds n).two (rds n).ahead l r = loopW (rds n).two (r1.length + 1) l t r1 := fun t r1 e => by
      unfold twoF
      rw [e]
    refine ⟨_, rfl, p, x, y, r, rfl, S, rn, by omega, fun t r1 et H1 v m1 S1 gd => ?_, fun et H1 m1 => k0 (by unfold twoF; rw [et]) H1 m1⟩
    obtain ⟨q, A1⟩ := iah r t r1 rn et
    have w1 := A1.wt
    have rn1 := A1.rn rn
    refine ⟨_, rfl, p, x, y, r1, rfl, S1, ?_⟩
    refine while_n (fun m σ H' => ∃ (t' : Sm) (r' : L) (v' : V), σ = [some (.ref p), some (.int (l : Nat)), some v', some (.str (signOf r'))] ∧ Mv p H H' ∧ Sc C H' p x y r' ∧ gTree K p t' v' H' ∧ Rn 80 r' ∧ wt r' ≤ wt r1 ∧ r'.length ≤ m ∧ twoF (rds n).two (rds n).ahead l r = loopW (rds n).two (m + 1) l t' r') r1.length ⟨t, r1, v, rfl, m1, S1, gd, rn1, Nat.le_refl _, Nat.le_refl _, e2 t r1 et⟩ (fun m σ H' e => ?_)
    obtain ⟨t', r', v', rfl, m', S', gd', rn', w', lm, el⟩ := e
    refine ⟨_, rfl, rfl, _, rfl, ?_⟩
    cases es : tpSign r' with
    | none =>
      have e0 : signOf r' = "" := by unfold signOf; rw [es]
      rw [e0]
      refine if_no (show (!decide (V.str ("" : Str) = V.str ("" : Str))) = false by decide +kernel) (if_no rfl ⟨_, rfl, ?_⟩)
      exact k1 t' r' (by rw [el]; exact loopW_stop fun q z => by rw [es] at z; cases z) H' v' m' S' gd'
    | some q =>
      have e0 : signOf r' = q.1 := by unfold signOf; rw [es]
      obtain ⟨mq, r2, er, ed⟩ := tpSign_mem es
      have hq := tpk_op q mq
      have hn : q.1 ≠ "" := (by decide +kernel : ∀ q ∈ tpk, q.1 ≠ "") q mq
      obtain ⟨tk, etk⟩ := (ns q.1).2 hq.1
      rw [e0]
      refine if_yes (by rw [decide_eq_false fun z => hn (V.str.inj z)]; rfl) ⟨_, rfl, ⟨dR, q.1, .int (rk q.1 : Nat), rfl, rfl, ⟨eR, nR, _, DR.at_, DR.lit, etk, ⟨tk, rfl⟩⟩, _, rfl, _, _, rfl, rfl, _, rfl, ?_⟩⟩
      by_cases c : l ≤ rk q.1
      · have wr : wt r' = wt q.2 + wt r2 := by rw [er, wt_app]
        have wq := tpk_wt q mq
        have rn2 : Rn 80 r2 := by rw [er] at rn'; exact rn'.tail
        have lr : r'.length = q.2.length + r2.length := by rw [er, List.length_append]
        have lq := (tpk_w2 q mq).2
        obtain ⟨i3, dx3, hp3, _⟩ := id S'
        refine if_yes (decide_eq_true (by omega)) ⟨_, fun σ' H' z => z, ?_⟩
        refine ⟨_, rfl, p, dx3, _, rfl, hp3, rfl, _, rfl, p, x, y, q.1, r', rfl, S', (by decide +kernel : ∀ q ∈ tpk, q.1.length ≤ 1000) q mq, fun e3 H4 m4 S4 => ?_, fun e3 => ?_⟩
        · rw [tpk_cs q mq, ed] at S4
          refine ⟨_, rfl, _, rfl, _, rfl, _, rfl, dR, q.1, .int (rk q.1 : Nat), rfl, rfl, ⟨eR, nR, _, DR.at_, DR.lit, etk, ⟨tk, rfl⟩⟩, _, _, rfl, rfl, ?_⟩
          refine ⟨p, x, y, r2, rk q.1 + 1, rfl, S4, rn2, by omega, by omega, fun u r3 eu H5 z m5 S5 gz => ⟨(by decide : 3 ≤ sizeLine), fun T0 nT => ?_⟩, fun eu H5 m5 => k0 ?_ H5 ((m'.trans m4).trans m5)⟩
          · have ne := S5.ne nT
            have st := loopW_step (two := (rds n).two) (m := m) (t := t') es c
            rw [ed, eu] at st
            obtain ⟨⟨q5, A5⟩, _⟩ := itw (rk q.1 + 1) r2 u r3 (by omega) rn2 eu
            have w5 := A5.wt
            have l5 : r3.length ≤ r2.length := by
              have := congrArg List.length A5.eq
              rw [List.length_append] at this
              omega
            have S6 := S5.same (same_upd (o := .tup [.str q.1, v', z]) nT)
            refine ⟨_, rfl, p, x, y, r3, rfl, S6, ?_⟩
            obtain ⟨m2, rfl⟩ : ∃ m2, m = m2 + 1 := ⟨m - 1, by omega⟩
            exact ⟨m2, by omega, .two q.1 t' u, r3, .ref T0, rfl, ((m'.trans m4).trans m5).trans (Mv.same (same_upd nT)), S6, mk_tup nT ne (.cons (.str _) (.cons (dp_mv gd' (m4.trans m5)) (.cons gz .nil))), A5.rn rn2, by omega, by omega, by rw [el, st]⟩
          · have st := loopW_step (two := (rds n).two) (m := m) (t := t') es c
            rw [ed, eu] at st
            rw [el, st]
        · have yes : seesB q.1 r' = true := by
            rw [seesB_tpk mq, er]
            exact List.isPrefixOf_iff_prefix.mpr ⟨r2, rfl⟩
          rw [yes] at e3
          cases e3
      · refine if_no (decide_eq_false (by omega)) ⟨_, rfl, ?_⟩
        exact k1 t' r' (by rw [el]; exact loopW_stop fun q' z => by rw [es] at z; cases z; exact c) H' v' m' S' gd'
end
end Qb
end PySem
namespace PySem
namespace Qb
open PySem.W PySem.Calls PyProof.Rows L2
/-- a text is read -/
def rdAll (n : Nat) (l : L) : Option Sm := match (rds n).sum l with
  | some (t, []) => some t
  | _ => none
theorem rdAll_some {n : Nat} {l : L} {t : Sm} (h : (rds n).sum l = some (t, [])) : rdAll n l = some t := by
  unfold rdAll
  rw [h]
theorem rdAll_none {n : Nat} {l : L} (h : ∀ t, (rds n).sum l ≠ some (t, [])) : rdAll n l = none := by
  unfold rdAll
  split
  · rename_i e; exact (h _ e).elim
  · rfl
/-- what the readers ask of a text -/
structure Fit (n : Nat) (x : Str) : Prop where
  len : x.length ≤ 90000
  rn : Rn 80 (cs x)
  wt : wt (cs x) + 4 ≤ n
def spRs (K : Frag) (CU : Addr) (n : Nat) : Sp := fun vs H Q E => ∃ (x : Str), vs = [.str x] ∧ Fit n x ∧
  (∀ t, rdAll n (cs x) = some t → ∀ H' v, Same H H' → Dp K H' v t.d → Q v H') ∧ (rdAll n (cs x) = none → ∀ H', Same H H' → RaisesU E CU x H')
section
variable {P : Program} {w : World} {K : Frag} {mg : Str → Option Value} {base : Heap}
structure Rdrs (P : Program) (w : World) (K : Frag) (mg : Str → Option Value) (base : Heap) (C CU fSu fTw fAh fPl : Addr) (dSu dTw dAh dPl : FuncData) (n : Nat) : Prop where
  su : FnOk P w K mg base (L2.CX P w) (n + 6) fSu dSu ["scanner"] (spSu K C CU n)
  tw : FnOk P w K mg base (L2.CX P w) (n + 6) fTw dTw ["scanner", "least"] (spTwn K C CU n)
  ah : FnOk P w K mg base (L2.CX P w) (n + 6) fAh dAh ["scanner"] (spAh K C CU n)
  pl : FnOk P w K mg base (L2.CX P w) (n + 6) fPl dPl ["scanner"] (spPl K C CU n)
theorem ok_rdrs {C CU fSu fTw fAh fPl : Addr} {dSu dTw dAh dPl : FuncData} (FSu : Fun K "sum_at" "sum_at" sSu fSu dSu) (gSu : mg "sum_at" = some (.ref fSu)) (bSu : Binds K dSu ["scanner"] []) (FTw : Fun K "two_parts_at" "two_parts_at" sTw fTw dTw) (gTw : mg "two_parts_at" = some (.ref fTw)) (bTw : Binds K dTw ["scanner", "least"] [])
    (FAh : Fun K "ahead_at" "ahead_at" sAh fAh dAh) (gAh : mg "ahead_at" = some (.ref fAh)) (bAh : Binds K dAh ["scanner"] []) (FPl : Fun K "plain_at" "plain_at" sPl fPl dPl) (gPl : mg "plain_at" = some (.ref fPl)) (bPl : Binds K dPl ["scanner"] []) (B : Blt mg) (W : Wrt K w mg) (T : Txt K mg C)
    (hTa : HasM P w K mg base C 2 "takes" ["self", "mark"] (spTa C)) (hNe : HasMX P w K mg base C 4 "need" ["self", "mark"] (spNe C CU)) (hPc : HasX P w K mg base 5 "place_at" ["scanner"] (spPc C CU)) (hSo : HasM P w K mg base C 1 "sees_one_of" ["self", "some"] (spSo C)) (hRo : HasM P w K mg base C 2 "row_of" ["self", "some"] (spRo C)) (hDg : HasX P w K mg base 4 "digits_at" ["scanner"] (spDg C CU)) (hTs : Has P w K mg base 2 "two_part_sign" ["scanner"] (spTs C)) :
    ∀ n, Rdrs P w K mg base C CU fSu fTw fAh fPl dSu dTw dAh dPl n
  | 0 => by
    refine ⟨FSu.okX scSu (fun vs H Q E h => ?_) (fun cdv A outer s H vs Q E hr h => ?_), FTw.okX scTw (fun vs H Q E h => ?_) (fun cdv A outer s H vs Q E hr h => ?_), FAh.okX scAh (fun vs H Q E h => ?_) (fun cdv A outer s H vs Q E hr h => ?_), FPl.okX scPl (fun vs H Q E h => ?_) (fun cdv A outer s H vs Q E hr h => ?_)⟩
    · obtain ⟨p, x, y, r, _, _, _, hw, _⟩ := h; omega
    · obtain ⟨p, x, y, r, _, _, _, hw, _⟩ := h; omega
    · obtain ⟨p, x, y, r, l, _, _, _, hw, _⟩ := h; omega
    · obtain ⟨p, x, y, r, l, _, _, _, hw, _⟩ := h; omega
    · obtain ⟨p, x, y, r, _, _, _, hw, _⟩ := h; omega
    · obtain ⟨p, x, y, r, _, _, _, hw, _⟩ := h; omega
    · obtain ⟨p, x, y, r, _, _, _, hw, _⟩ := h; omega
    · obtain ⟨p, x, y, r, _, _, _, hw, _⟩ := h; omega
  | n + 1 => by
    have i := ok_rdrs FSu gSu bSu FTw gTw bTw FAh gAh bAh FPl gPl bPl B W T hTa hNe hPc hSo hRo hDg hTs n
    exact ⟨ok_Su FSu gSu bSu W T hTa hNe gTw FTw.kp bTw i.tw i.su, ok_Tw FTw gTw bTw W T hTs hNe gAh FAh.kp bAh i.ah i.tw, ok_Ah FAh gAh bAh T hTa hRo gPl FPl.kp bPl i.pl i.ah, ok_Pl FPl B W T hTa hNe hPc hSo hRo hDg gSu FSu.kp bSu i.su⟩
abbrev sRs : Stmt := top 56
abbrev nRs : List Str := ["text", "scanner", "tree"]
theorem scRs : FnScope nRs ["text"] (defScope sRs) := ⟨rfl, rfl, rfl, by decide +kernel, rfl, by decide +kernel, by decide +kernel⟩
theorem ok_Rs {f C CU fI : Addr} {fd : FuncData} (EGi : EG K fI) {mU : List Value} (TU : EC K mg fI "Unreadable" CU mU) {dI : FuncData} (GIn : FnOk P w K mg base CX0 1 fI dI ["self", "value"] (spInit K)) (bIn : Binds K dI ["self", "value"] []) (F : Fun K "read_sum" "read_sum" sRs f fd) (T : Txt K mg C) {fSc : Addr} {dSc : FuncData} (MSc : Mk K C fSc) (bSc : Binds K dSc ["self", "text", "whole"] []) (GSc : FnOk P w K mg base CX0 1 fSc dSc ["self", "text", "whole"] (spSc C))
    (hAe : HasM P w K mg base C 1 "is_at_end" ["self"] (spAe C)) {n : Nat} {fSu : Addr} {dSu : FuncData} (gSu : mg "sum_at" = some (.ref fSu)) (kSu : PySem.W.keepIn K (.ref fSu) = true) (bSu : Binds K dSu ["scanner"] []) (GSu : FnOk P w K mg base (L2.CX P w) (n + 6) fSu dSu ["scanner"] (spSu K C CU n)) :
    FnOk P w K mg base (L2.CX P w) (n + 7) f fd ["text"] (spRs K CU n) := by
  obtain ⟨fAe, dAe, mAe, bAe, GAe⟩ := hAe
  refine F.okX scRs (fun vs H Q E h => ?_) (fun cdv A outer s H vs Q E hr h => ?_)
  · obtain ⟨x, rfl, _⟩ := h
    rfl
  · refine ⟨_, (pss_cons (ps_set (i := 1) scRs.nd rfl (.inl rfl) (pe_make MSc GSc (hr.mono (by omega)) (by rfl) T.mgC bSc .nil pass0 (pa_cons (pv 0) (pa_cons (pv 0) pa_nil))))
        (pss_cons (ps_set (i := 2) scRs.nd rfl (.inl rfl) (pe_callS GSu hr rfl gSu kSu bSu (fun σ => passAt (takes_of rfl rfl rfl rfl) σ) (by exact (pa_cons (pv 1) pa_nil))))
        (pss_cons (ps_if (pt_not (pt_val (pe_meth0 (pv 1) T.cl mAe GAe (hr.mono (by omega)) bAe .nil pass0))) (pss_one (ps_raise rfl (takes_of rfl rfl rfl rfl) (pmk_oex TU.oex TU.iC EGi.tI GIn (hr.mono (by omega)) bIn .nil pass0 (by rfl) TU.gC (by exact (pa_cons (pv 0) pa_nil))))) pss_nil)
        (pss_one (ps_ret (pv 2)))))), ?_⟩
    obtain ⟨x, rfl, fx, k1, k0⟩ := h
    refine ⟨_, rfl, _, rfl, fun p dx np nd ne => ⟨p, dx, x, x, rfl, upd_same, fx.len, fun H1 m1 S1 => ⟨rfl, ?_⟩⟩⟩
    -- what was there before is there again
    have back : ∀ H', Mv p H1 H' → Same H (hide H' p) := fun H' m => by
      have z : Same H (hide (L2.upd (L2.upd H dx (.own p)) p (.ins C dx [])) p) := hide_of (same_upd2 (same_upd nd) np) np
      exact (z.trans m1).trans m
    refine ⟨_, rfl, p, x, x, cs x, rfl, S1, fx.rn, by have := fx.wt; omega, fun t r2 et H2 v m2 S2 gd => ?_, fun et H2 m2 => ?_⟩
    · obtain ⟨i2, dx2, hp2, _⟩ := id S2
      refine ⟨_, rfl, p, dx2, _, rfl, hp2, rfl, p, x, x, r2, rfl, S2, _, rfl, ?_⟩
      cases r2 with
      | nil => exact if_no rfl ⟨_, rfl, k1 t (rdAll_some et) H2 v ((back H2 m2).trans hide_same) (dp_same hide_same gd)⟩
      | cons c l =>
        refine if_yes rfl ⟨_, rfl, init_end TU.oex TU.no fun d nd' => ?_⟩
        exact k0 (rdAll_none fun t' z => by rw [et] at z; cases z) H2 ((back H2 m2).trans hide_same) d nd'
    · intro d nd'
      exact k0 (rdAll_none fun t' z => by rw [et] at z; cases z) H2 ((back H2 m2).trans hide_same) d nd'
end
end Qb
end PySem
namespace PySem
namespace Qb
open PySem.W PySem.Calls PyProof.Rows L2
/-- a def of the text called from one place that is known: its body need hold there alone -/
theorem run_at {P : Program} {w : World} {K : Frag} {mg : Str → Option Value} {base : Heap} {k : Nat} {x qual : Str} {st : Stmt} {f : Addr} {fd : FuncData} {N ps : List Str} {A : Around} {outer : List Env} {s : Shared} {H : Hp} {args : Args} {us : List Value} {vs : List V} {Q : VK}
    (F : Fun K x qual st f fd) (S : FnScope N ps (defScope st)) (hr : Room (k + 1) A) (e0 : Env0 P w K mg base A outer s H) (hb : BindsTo s fd args (ps.zip us)) (r : Vals vs us) (hl : vs.length = ps.length)
    (body : ∀ cdv, ∃ t, PSs (cxOf CX0 P w K mg base N qual (defScope st) f cdv A outer s H E0).nox (defBody st) t ∧ t { nx := fun _ H' => Q .non H', rt := Q } (L2.start N vs) H) :
    codeAny (model P w) A (.call (.ref f) args) (CR CX0 outer P w H s Q E0) s := by
  obtain ⟨oc, od, kV, doc, pm, an, cdv, ct, osl, rfl, lk, hcd⟩ := F.ex
  have here : K.In s.heap := e0.mod.kin.keeps fun b o z => (e0.bs b o z).1
  have room : s.heap.NoLimit := e0.mod.nolimit.keeps fun b o z => (e0.bs b o z).1
  refine codeAny_call_function hr.depth (here _ _ lk) rfl S.co S.gen rfl (codeRec_of here hcd) (hb _ _ _ _ ?_)
  refine wpAny_newFunctionEnv_cells S.kind (fun y hy => ?_) fun env he s1 hin => ?_
  · obtain ⟨n, v⟩ := y
    rcases S.par n (List.of_mem_zip hy).1 with z | z
    · exact .inl z
    · exact .inr ⟨z, cellsFrom_some _ _ _ (.inl z)⟩
  · subst he
    obtain ⟨t, ht, rd⟩ := body cdv
    have I : Inv (cxOf CX0 P w K mg base N qual (defScope st) f cdv A outer s H E0) [] (L2.start N vs) H s1 := inv_start S hr.hd e0 hl r hin
    refine ⟨room.keeps hin.toInCall.keep, codeAny_func (wpAny_mono (ht.nox.run [] s1 _ H _ I rd) (fun fl s2 hs => ?_) fun e s2 hs => hs)⟩
    have fin : ∀ {σ2 : L2.St} {H2 : Hp} {v : V} {u : Value}, Inv (cxOf CX0 P w K mg base N qual (defScope st) f cdv A outer s H E0) [] σ2 H2 s2 → RelV v u → Q v H2 → CE outer P w H s Q u s2 :=
      fun J rv q => ⟨_, _, J.os, J.bare, J.base, J.hok, rv, q⟩
    cases fl with
    | ret u =>
      obtain ⟨v, σ2, H2, J, rv, q⟩ := hs
      exact fin J rv q
    | next =>
      obtain ⟨σ2, H2, J, q⟩ := hs
      exact fin (v := .non) (u := .none) J rfl q
    | brk =>
      obtain ⟨_, _, _, z⟩ := hs
      exact (z : False).elim
    | cont =>
      obtain ⟨_, _, _, z⟩ := hs
      exact (z : False).elim
/-- the law is called over the script: what the body needs is laid out -/
theorem law_at {P : Program} {w : World} {K : Frag} {mg mb : Str → Option Value} {fa a : Addr} {s : Shared} {vs : List Value} {ns : List Int}
    (KX : K.In s.heap) (hns : s.heap.Ns mainGlobals mg) (hb : s.heap.Ns builtinsNs mb) (hbb : ∀ x : Str, x ≠ "__name__" → mb x = bootBuiltins x) (lim : s.heap.NoLimit) (hg : s.gens = #[])
    (ha : s.heap.get? a = some { cls := .type "list", data := .seq vs.toArray }) (hi : IntsAre vs ns) (hl : ns.length ≤ sizeLine)
    (run : ∀ (base : Heap) (H : Hp), K.In base → base.Ns mainGlobals mg → Env0 P w K mg base callerA [] s H → SqL K H a (ns.map V.int) →
      codeAny (model P w) callerA (.call (.ref fa) ⟨[.ref a], []⟩) (CR CX0 [] P w H s (fun v _ => v = .bl true) E0) s) :
    codeAny (model P w) callerA (.call (.ref fa) ⟨[.ref a], []⟩) (fun r s' => r = .ok (.ret (.bool true)) ∧ OldK s.heap s'.heap ∧ s'.os = s.os ∧ AllBare s'.gens) s := by
  have rel := vals_ints hi
  have many := hi.length
  -- the script is tracked, as a thing that is known, where it is none of the module's own
  obtain ⟨H, hH⟩ : ∃ H : Hp, ∀ b, H b = if b = a ∧ K.lookup a = none then some (.frz { cls := .type "list", data := .seq vs.toArray } (.lst (ns.map V.int))) else none := ⟨_, fun _ => rfl⟩
  have only : ∀ b u, H b = some u → b = a ∧ K.lookup a = none ∧ u = .frz { cls := .type "list", data := .seq vs.toArray } (.lst (ns.map V.int)) := fun b u z => by
    rw [hH] at z
    by_cases c : b = a ∧ K.lookup a = none
    · rw [if_pos c] at z
      exact ⟨c.1, c.2, (Option.some.inj z).symm⟩
    · rw [if_neg c] at z
      cases z
  have sq : SqL K H a (ns.map V.int) := by
    cases hk : K.lookup a with
    | none => exact .inl (.inr ⟨_, by rw [hH]; exact if_pos ⟨rfl, hk⟩⟩)
    | some o =>
      have e := KX a o hk
      rw [ha] at e
      cases e
      exact .inr ⟨_, vs.toArray, _, hk, rfl, rfl, rfl, by rw [List.size_toArray, many]; exact hl, by simpa using rel⟩
  have ok : HOk P w H s.heap := fun b u z => by
    obtain ⟨rfl, _, rfl⟩ := only b u z
    exact ⟨ha, by rw [List.length_map]; exact hl, vs, _, rel, ha⟩
  have kept : ∀ b o, s.heap.get? b = some o → H b = none → (hidT s.heap H).get? b = some o := fun b o z n => hidT_get z n
  have baseK : K.In (hidT s.heap H) := fun b o z => kept b o (KX b o z) (by
    cases q : H b with
    | none => rfl
    | some u =>
      obtain ⟨rfl, n, _⟩ := only b u q
      rw [n] at z
      cases z)
  have baseN : ∀ (b : Addr) (m : Str → Option Value), s.heap.Ns b m → (hidT s.heap H).Ns b m := fun b m ⟨o, es, ep, z, d, r⟩ => ⟨o, es, ep, kept b o z (by
    cases q : H b with
    | none => rfl
    | some u =>
      obtain ⟨rfl, _, _⟩ := only b u q
      rw [ha] at z
      cases z
      cases d), d, r⟩
  have env : Env0 P w K mg (hidT s.heap H) callerA [] s H := {
    frames := rfl
    mod := ⟨baseK, baseN _ _ hns, ⟨mb, baseN _ _ hb, hbb⟩, let ⟨m, z1, z2⟩ := lim; ⟨m, baseN _ _ z1, z2⟩⟩
    bs := fun b o z => of_hidT z
    bsz := Nat.le_of_eq (hidT_size _ _)
    funs := trivial
    frf := fun b z => nomatch z
    hok := ok
    bare := .of_eq hg }
  refine codeAny_mono (run _ H baseK (baseN _ _ hns) env sq) fun r s' z => ?_
  cases r with
  | error e => exact z.elim
  | ok fl =>
    cases fl with
    | ret u =>
      obtain ⟨v, H', h1, h2, h3, h4, h5, h6⟩ := z
      obtain rfl : v = .bl true := h6
      obtain rfl : u = Value.bool true := h5
      refine ⟨rfl, OldK.of_keep fun b o y => ?_, h1, h2⟩
      cases q : H b with
      | none => exact h3.keep b o y q (fun z => nomatch z) (fun z => nomatch z)
      | some t =>
        obtain ⟨rfl, _, rfl⟩ := only b t q
        have q2 := h3.frzs _ _ _ q
        obtain ⟨g1, _⟩ := h4 _ _ q2
        rw [ha] at y
        cases y
        exact g1
    | next => exact z.elim
    | brk => exact z.elim
    | cont => exact z.elim
end Qb
end PySem
namespace PySem
namespace Qb
open PySem.W PySem.Calls PyProof.Rows L2
/-! # max(xs, default=d) of a list of ints -/
theorem nm_loop : (toString "max" ++ toString ".loop" : String) = "max.loop" := by decide
abbrev kwD (d : Value) : List (Str × Value) := [(Str.ofString "default", d)]
theorem args_maxD (a d : Value) : argsOk "max" ⟨[a], kwD d⟩ := by unfold argsOk; kernel_rfl
section
variable {P0 : Program} {w : World} {A : Around} {Z : Result → Shared → Prop} {It : Addr} {fp wr : List Addr} {n : Nat} {Pi : Nat → Value → Prop} {St0 : Nat → Heap → Prop} {dv : Value}
theorem maxD_on (wk : Walks P0 w A.in1 It fp wr n Pi St0) (bt : Nat → Nat → Bool) (cmp : CmpOf P0 w A.in1 .Gt Pi bt) (B : Addr) (nB : B ∉ fp) :
    ∀ (k j : Nat) (s : Shared) (vb : Value) (c : Nat), n - (j + 1) = k → j + 1 ≤ n → St0 (j + 1) s.heap → Pi (argBest bt j) vb →
    s.heap.get? B = some { cls := .type "list", dict := none, data := .seq #[vb, vb] c, slots := #[] } →
    (∀ v h' tk, Pi (argBest bt (n - 1)) v → (∀ b o, b ∉ wr → b ≠ B → s.heap.get? b = some o → h'.get? b = some o) → Z (.ok (.ret v)) { s with heap := h', toks := tk }) →
    codeAny (model P0 w) A (.builtin "max.loop" ⟨[.ref It, .none, .ref B], kwD dv⟩) Z s := by
  have nW : B ∉ wr := fun h => nB (wk.sub _ h)
  intro k
  induction k with
  | zero =>
    intro j s vb c ek hj atSt best atB fin
    have e1 : j + 1 = n := by omega
    refine codeAny_builtin F.entry_max_loop (?_ : _)
    rw [Around.under_plainId F.plain_max_loop]
    show wpAny _ A.in1 (seqItems? (.ref B) >>= _) _ _ s
    refine wpAny_bind (wpAny_seqItems atB rfl (?_ : _))
    show wpAny _ A.in1 (tryCatch (pyNext (.ref It)) _ >>= _) _ _ s
    refine wpAny_bind (wpAny_tryCatch (wk.done s _ _ (e1 ▸ atSt) fun h1 tk keep => ?_))
    have atB1 := keep B _ nW atB
    show wpAny _ A.in1 (updateSeq B (fun _ => #[]) >>= _) _ _ _
    exact wpAny_bind (wpAny_updateSeq atB1 rfl (wpAny_bind (wpAny_letGo (wpAny_pure (fin vb _ tk (by rw [← e1]; exact best) fun b o n1 n2 e => (Heap.get?_update_other _ _ (Ne.symm n2)).trans (keep b o n1 e))))))
  | succ k ih =>
    intro j s vb c ek hj atSt best atB fin
    have e1 : j + 1 < n := by omega
    refine codeAny_builtin F.entry_max_loop (?_ : _)
    rw [Around.under_plainId F.plain_max_loop]
    show wpAny _ A.in1 (seqItems? (.ref B) >>= _) _ _ s
    refine wpAny_bind (wpAny_seqItems atB rfl (?_ : _))
    show wpAny _ A.in1 (tryCatch (pyNext (.ref It)) _ >>= _) _ _ s
    refine wpAny_bind (wpAny_tryCatch (wk.item (j + 1) s _ _ e1 atSt fun v h1 tk isV atSt1 keep => ?_))
    have atB1 := keep B _ nW atB
    show wpAny _ A.in1 (tryCatch (holding [v, v] (richCompare .Gt v vb >>= _)) _ >>= _) _ _ _
    refine wpAny_bind (wpAny_tryCatch (wpAny_holding (wpAny_bind (cmp (j + 1) (argBest bt j) v vb _ _ _ isV best (?_ : _)))))
    refine wpAny_bind (wpAny_holding (wpAny_truthy_bool (wpAny_bind (wpAny_letGo (wpAny_pure (?_ : _))))))
    cases hb : bt (j + 1) (argBest bt j) with
    | true =>
      simp only [if_true]
      refine wpAny_bind (wpAny_updateSeq atB1 rfl (wpAny_bind (wpAny_letGo (?_ : _))))
      rw [nm_loop]
      refine wpAny_pure ⟨plainId_quiet F.plain_max_loop _, ih (j + 1) _ v _ (by omega) e1 (wk.frame _ _ _ atSt1 fun b hbf o e => ?_) (by simp only [argBest, hb, if_true]; exact isV) (Heap.get?_update_self _ atB1 rfl) fun v' h2 tk2 isV' keep2 => ?_⟩
      · exact (Heap.get?_update_other _ _ (fun h : B = b => nB (h ▸ hbf))).trans e
      · exact fin v' h2 tk2 isV' fun b o n1 n2 e => keep2 b o n1 n2 ((Heap.get?_update_other _ _ (Ne.symm n2)).trans (keep b o n1 e))
    | false =>
      simp only [Bool.false_eq_true, if_false]
      refine wpAny_bind (wpAny_letGo (?_ : _))
      rw [nm_loop]
      refine wpAny_pure ⟨plainId_quiet F.plain_max_loop _, ih (j + 1) _ vb c (by omega) e1 atSt1 (by simp only [argBest, hb, Bool.false_eq_true, if_false]; exact best) atB1 fun v' h2 tk2 isV' keep2 => ?_⟩
      exact fin v' h2 tk2 isV' fun b o n1 n2 e => keep2 b o n1 n2 (keep b o n1 e)
theorem maxD_first (wk : Walks P0 w A.in1 It fp wr n Pi St0) (bt : Nat → Nat → Bool) (cmp : CmpOf P0 w A.in1 .Gt Pi bt) (B : Addr) (nB : B ∉ fp) {s : Shared} {c : Nat} (atSt : St0 0 s.heap)
    (atB : s.heap.get? B = some { cls := .type "list", dict := none, data := .seq #[] c, slots := #[] })
    (none : n = 0 → ∀ h' tk, (∀ b o, b ∉ wr → b ≠ B → s.heap.get? b = some o → h'.get? b = some o) → Z (.ok (.ret dv)) { s with heap := h', toks := tk })
    (fin : 0 < n → ∀ v h' tk, Pi (argBest bt (n - 1)) v → (∀ b o, b ∉ wr → b ≠ B → s.heap.get? b = some o → h'.get? b = some o) → Z (.ok (.ret v)) { s with heap := h', toks := tk }) :
    codeAny (model P0 w) A (.builtin "max.loop" ⟨[.ref It, .none, .ref B], kwD dv⟩) Z s := by
  have nW : B ∉ wr := fun h => nB (wk.sub _ h)
  refine codeAny_builtin F.entry_max_loop (?_ : _)
  rw [Around.under_plainId F.plain_max_loop]
  show wpAny _ A.in1 (seqItems? (.ref B) >>= _) _ _ s
  refine wpAny_bind (wpAny_seqItems atB rfl (?_ : _))
  show wpAny _ A.in1 (tryCatch (pyNext (.ref It)) _ >>= _) _ _ s
  rcases Nat.eq_zero_or_pos n with z | pos
  · refine wpAny_bind (wpAny_tryCatch (wk.done s _ _ (z ▸ atSt) fun h1 tk keep => ?_))
    exact wpAny_bind (wpAny_rule (wpAny_pure (none z _ tk fun b o n1 n2 e => keep b o n1 e)))
  · refine wpAny_bind (wpAny_tryCatch (wk.item 0 s _ _ pos atSt fun v h1 tk isV atSt1 keep => ?_))
    have atB1 := keep B _ nW atB
    show wpAny _ A.in1 (updateSeq B (fun _ => #[v, v]) >>= _) _ _ _
    refine wpAny_bind (wpAny_updateSeq atB1 rfl (?_ : _))
    rw [nm_loop]
    refine wpAny_pure ⟨plainId_quiet F.plain_max_loop _, maxD_on wk bt cmp B nB _ 0 _ v _ rfl pos (wk.frame _ _ _ atSt1 fun b hbf o e => ?_) isV (Heap.get?_update_self _ atB1 rfl) fun v' h2 tk2 isV' keep2 => ?_⟩
    · exact (Heap.get?_update_other _ _ (fun h : B = b => nB (h ▸ hbf))).trans e
    · exact fin pos v' h2 tk2 isV' fun b o n1 n2 e => keep2 b o n1 n2 ((Heap.get?_update_other _ _ (Ne.symm n2)).trans (keep b o n1 e))
end
def rMaxD (K : PySem.W.Frag) : List V → List V → Hp → VK → Prop := fun vs zs H Q => ∃ (a : Addr) (ns : List Int) (d : V), vs = [V.ref a] ∧ zs = [d] ∧ SqL K H a (ns.map V.int) ∧
  (ns = [] → Q d H) ∧ ∀ m, m ∈ ns → (∀ y, y ∈ ns → y ≤ m) → Q (.int m) H
theorem cr_maxD {X : Cx} (hc : X.calm = true) : CallRK X (.builtin "max") [Str.ofString "default"] (rMaxD X.K) := by
  intro pins s σ H vs zs us ws Q I r rz h
  obtain ⟨a, ns, d, rfl, rfl, hs, q0, q1⟩ := h
  obtain rfl := Vals.ref1 r
  obtain ⟨w1, rfl, rd⟩ := vals1 rz
  obtain ⟨its, rv, hl, _⟩ := I.list hs
  have hi := rv.ints
  obtain ⟨xs, e⟩ := hi.allInts.items
  have hn : numsOf (intItems xs).toList = ns := by rw [← e]; exact hi.numsOf
  rw [nums_intItems] at hn
  have hl2 := hl.isList
  rw [e] at hl2
  show wpAny _ _ (call (.builtin "max") [.ref a] (kwD w1)) _ _ _
  refine PyProof.Rows.kmk_tree F.kind_max F.plain_max F.entry_max (args_maxD _ _) (?_ : _)
  show wpAny _ X.A.in1 (Builtin.Builtins.bindParams "max" ["key", "default"] 0 ⟨[], kwD w1⟩ >>= _) _ _ s
  refine wpAny_bind (wpAny_of_eq (show Builtin.Builtins.bindParams "max" ["key", "default"] 0 ⟨[], kwD w1⟩ = pure [none, some w1] from rfl) (wpAny_bind (wpAny_pure (?_ : _))))
  refine wpAny_bind (iter_intList hl2 fun s2 es here fresh ne => ?_)
  subst es
  refine wpAny_bind (wpAny_newList (?_ : _) (Nat.zero_le _))
  rw [nm_loop]
  have walk := Walks.list (prog := X.prog) (w := X.w) (A := X.A.in1) (I.ok.hd hc) s.heap.objs.size a ne (intItems xs)
  have old : ∀ b o, s.heap.get? b = some o → b ∉ [s.heap.objs.size] := fun b o e m => by
    rw [List.mem_singleton.mp m] at e
    exact Nat.lt_irrefl _ (Heap.lt_size e)
  have keepAll : ∀ (h' : Heap), (∀ b o, b ∉ [s.heap.objs.size] → b ≠ (s.heap.push { cls := .type "list_iterator", data := .fields #[.ref a, .int 0 0] }).objs.size → ((s.heap.push { cls := .type "list_iterator", data := .fields #[.ref a, .int 0 0] }).push (seqObj "list" #[] 0)).get? b = some o → h'.get? b = some o) → ∀ b o, s.heap.get? b = some o → h'.get? b = some o := fun h' k b o e => by
    refine k b o (old b o e) (fun z => ?_) (Heap.get?_push_of_some _ (Heap.get?_push_of_some _ e))
    have l1 : b < s.heap.objs.size := Heap.lt_size e
    have l2 := Heap.size_push s.heap { cls := .type "list_iterator", data := .fields #[.ref a, .int 0 0] }
    rw [z, l2] at l1
    exact Nat.lt_irrefl _ (Nat.lt_of_succ_lt l1)
  have hsz : xs.size = ns.length := by rw [← hn, List.length_map, Array.length_toList]
  have lst : ∀ m, m ∈ ns → ∃ j, j < xs.size ∧ numAt xs j = m := fun m hm => by
    rw [← hn] at hm
    obtain ⟨j, hj, rfl⟩ := mem_getD hm
    rw [List.length_map, Array.length_toList] at hj
    exact ⟨j, hj, numAt_eq _ _⟩
  refine wpAny_pure ⟨plainId_quiet F.plain_max_loop _, maxD_first (dv := w1) walk _ (CmpOf.ints_gt (numAt xs) (fun _ _ => intItems_at)) _ (fun m => ?_) (walk.frame _ _ _ here fun b _ o e => Heap.get?_push_of_some _ e) (Heap.get?_push_size _ rfl) (fun z h' tk k => ?_) (fun pos v h' tk hv k => ?_)⟩
  ·
    exact absurd (fresh _ m) (Nat.lt_irrefl _)
  · have e0 : ns = [] := List.length_eq_zero_iff.mp (by rw [← hsz]; simpa [intItems] using z)
    exact ⟨d, H, I.kept (keepAll h' k), rd, q0 e0⟩
  · obtain ⟨t, rfl⟩ := intItems_at hv
    obtain ⟨h1, h2⟩ := argBest_gt (numAt xs) (xs.size - 1)
    have e1 : (intItems xs).size = xs.size := by simp [intItems]
    rw [e1] at hv pos ⊢
    refine ⟨.int _, H, I.kept (keepAll h' k), ⟨_, rfl⟩, q1 _ ?_ fun y hy => ?_⟩
    · rw [← hn, numAt_eq]
      exact PySem.getD_mem (by rw [List.length_map, Array.length_toList]; omega)
    · obtain ⟨j, hj, rfl⟩ := lst y hy
      exact h2 j (by omega)
end Qb
end PySem
namespace PySem
namespace Qb
open PySem.W PySem.Calls PyProof.Rows L2
/-! # copies; show_sum, refusing too -/
theorem sm_pl : ∀ {t : Sm} {n : Nat}, t.ht ≤ n → Pl (n + 1) t.d := by
  have st : ∀ (n : Nat) (x : Str), Pl n (.str x) := fun n x => by
    cases n with
    | zero => exact .inl ⟨x, rfl⟩
    | succ n => exact .inl (.inl ⟨x, rfl⟩)
  have it : ∀ (n : Nat) (x : Int), Pl n (.int x) := fun n x => by
    cases n with
    | zero => exact .inr (.inr (.inl ⟨x, rfl⟩))
    | succ n => exact .inl (.inr (.inr (.inl ⟨x, rfl⟩)))
  intro t
  induction t with
  | num i => exact fun _ => .inr ⟨_, .inr rfl, by show 2 ≤ 1000; decide, fun e m => by
      rcases List.mem_cons.mp m with rfl | m
      · exact st _ _
      · rw [List.mem_singleton.mp m]; exact it _ _⟩
  | of w => exact fun _ => .inr ⟨_, .inr rfl, by show 2 ≤ 1000; decide, fun e m => by
      rcases List.mem_cons.mp m with rfl | m
      · exact st _ _
      · rw [List.mem_singleton.mp m]; exact st _ _⟩
  | one s a ih =>
    intro n h
    have hh : (Sm.one s a).ht = 1 + a.ht := rfl
    obtain ⟨m, rfl⟩ : ∃ m, n = m + 1 := ⟨n - 1, by omega⟩
    exact .inr ⟨_, .inr rfl, by show 2 ≤ 1000; decide, fun e mm => by
      rcases List.mem_cons.mp mm with rfl | mm
      · exact st _ _
      · rw [List.mem_singleton.mp mm]; exact ih (by omega)⟩
  | two s a b ia ib =>
    intro n h
    have hh : (Sm.two s a b).ht = 1 + max a.ht b.ht := rfl
    obtain ⟨m, rfl⟩ : ∃ m, n = m + 1 := ⟨n - 1, by omega⟩
    exact .inr ⟨_, .inr rfl, by show 3 ≤ 1000; decide, fun e mm => by
      rcases List.mem_cons.mp mm with rfl | mm
      · exact st _ _
      rcases List.mem_cons.mp mm with rfl | mm
      · exact ia (by omega)
      · rw [List.mem_singleton.mp mm]; exact ib (by omega)⟩
  | three s a b c ia ib ic =>
    intro n h
    have hh : (Sm.three s a b c).ht = 1 + max a.ht (max b.ht c.ht) := rfl
    obtain ⟨m, rfl⟩ : ∃ m, n = m + 1 := ⟨n - 1, by omega⟩
    exact .inr ⟨_, .inr rfl, by show 4 ≤ 1000; decide, fun e mm => by
      rcases List.mem_cons.mp mm with rfl | mm
      · exact st _ _
      rcases List.mem_cons.mp mm with rfl | mm
      · exact ia (by omega)
      rcases List.mem_cons.mp mm with rfl | mm
      · exact ib (by omega)
      · rw [List.mem_singleton.mp mm]; exact ic (by omega)⟩
/-- an error of the class at C that holds u is raised -/
def RaisesV (E : XK) (C : Addr) (u : V) (H : Hp) : Prop := ∀ d, H d = none → E (.ref C) (some d) (L2.upd H d (.xd [(("value" : Str), u)]))
section
variable {P : Program} {w : World} {K : Frag} {mg : Str → Option Value} {base : Heap}
abbrev sFr : Stmt := top 2
abbrev nFr : List Str := ["thing", "table", "key", "parts", "part"]
theorem scFr : FnScope nFr ["thing"] (defScope sFr) := ⟨rfl, rfl, rfl, by decide +kernel, rfl, by decide +kernel, by decide +kernel⟩
theorem ok_Fr {f : Addr} {fd : FuncData} (F : Fun K "fresh" "fresh" sFr f fd) (g : mg "fresh" = some (.ref f)) (b : Binds K fd ["thing"] []) (B : Blt mg) : ∀ n, FnOk P w K mg base CX0 (n + 1) f fd ["thing"] (spOw K n)
  | 0 => F.ok scFr (fun vs H Q E h => h.elim) (fun cdv A outer s H vs Q E hr h => h.elim)
  | n + 1 => by
    have GFr := ok_Fr F g b B n
    refine F.ok scFr (fun vs H Q E h => ?_) (fun cdv A outer s H vs Q E hr h => ?_)
    · obtain ⟨v, d, rfl, _⟩ := h
      rfl
    · obtain ⟨v, d, rfl, hv, hp, k⟩ := h
      rcases pl_cases hp with h0 | ⟨m, ds, rfl, h1, h2, h3⟩
      · refine ⟨_, (pss_cons (ps_if (pt_val (pe_callB call_isi (by rfl) B.isi (by decide +kernel) (pa_cons (pv 0) (pa_cons (pe_bltn (v := .ty "dict") (by rfl) B.dict (by decide +kernel) rfl) pa_nil)))) pss_never pss_nil)
          (pss_cons (ps_if (pt_not (pt_val (pe_callB call_isiT (by rfl) B.isi (by decide +kernel) (pa_cons (pv 0) (pa_cons (pe_tup (pa_cons (pe_bltn (v := .ty "list") (by rfl) B.list (by decide +kernel) rfl) (pa_cons (pe_bltn (v := .ty "tuple") (by rfl) B.tuple (by decide +kernel) rfl) pa_nil))) pa_nil))))) (pss_one (ps_ret (pv 0))) pss_nil) pss_never)), ?_⟩
        obtain ⟨hw, t, ht, hn⟩ := pl0_ty h0 hv
        obtain ⟨n1, n2, n3⟩ := flat_no (K := K) hn
        refine ⟨_, rfl, v, .ty "dict", _, .type "dict", false, rfl, .ty _, ht, n3, _, rfl, if_no rfl ?_⟩
        refine ⟨_, rfl, (by decide : 2 ≤ sizeLine), fun T nT => ⟨v, T, _, _, [.type "list", .type "tuple"], false, rfl, upd_same, .cons (.ty _) (.cons (.ty _) .nil), ?_, kan n1 (kan n2 kitAny_nil), _, rfl, if_yes rfl ⟨_, rfl, ?_⟩⟩⟩
        · rcases h0 with ⟨x, rfl⟩ | ⟨x, rfl⟩ | ⟨x, rfl⟩ | rfl <;> cases hv <;> cases ht <;> rename_i z <;> cases z <;> constructor <;> constructor
        · exact k _ v [] (same_upd nT) (ow_same (same_upd nT) hw) fun b m => by cases m
      · rcases h1 with rfl | rfl
        · obtain ⟨a, xs, rfl, hq, all⟩ := dp_lst hv
          have lx := dpLen all
          refine ⟨_, (pss_cons (ps_if (pt_val (pe_callB call_isi (by rfl) B.isi (by decide +kernel) (pa_cons (pv 0) (pa_cons (pe_bltn (v := .ty "dict") (by rfl) B.dict (by decide +kernel) rfl) pa_nil)))) pss_never pss_nil)
            (pss_cons (ps_if (pt_not (pt_val (pe_callB call_isiT (by rfl) B.isi (by decide +kernel) (pa_cons (pv 0) (pa_cons (pe_tup (pa_cons (pe_bltn (v := .ty "list") (by rfl) B.list (by decide +kernel) rfl) (pa_cons (pe_bltn (v := .ty "tuple") (by rfl) B.tuple (by decide +kernel) rfl) pa_nil))) pa_nil))))) pss_never pss_nil)
            (pss_cons (ps_set (i := 3) scFr.nd rfl (.inl rfl) (pe_lst pa_nil))
            (pss_cons (ps_for PassesOwn.never rfl (pi_list (pv 0)) (pg_name (i := 4) scFr.nd rfl (.inl rfl))
              (pss_one (ps_expr (pe_bm PySem.F.plainAttrs_list PySem.F.slot_list_append PySem.F.type_list_append mt_append (pv 3) (pa_cons (pe_call GFr hr rfl g F.kp b .nil pass0 (pa_cons (pv 4) pa_nil)) pa_nil)))))
            (pss_one (ps_ret (pe_ifExp (pt_val (pe_callB call_isi (by rfl) B.isi (by decide +kernel) (pa_cons (pv 0) (pa_cons (pe_bltn (v := .ty "list") (by rfl) B.list (by decide +kernel) rfl) pa_nil)))) (pv 3) pe_never))))))), ?_⟩
          refine ⟨_, rfl, .ref a, .ty "dict", .type "list", .type "dict", false, rfl, .ty _, ty_lst hq, kit_ty (by decide +kernel), _, rfl, if_no rfl ?_⟩
          refine ⟨_, rfl, (by decide : 2 ≤ sizeLine), fun T nT => ?_⟩
          have s1 := same_upd (o := .tup [.ty "list", .ty "tuple"]) nT
          have hq1 := s1.seq hq
          refine ⟨.ref a, T, _, .type "list", [.type "list", .type "tuple"], true, rfl, upd_same, .cons (.ty _) (.cons (.ty _) .nil), ty_lst hq1, kay (kit_ty (by decide +kernel)), _, rfl, if_no rfl ?_⟩
          refine ⟨(by decide : 0 ≤ sizeLine), fun D nD => ?_⟩
          refine ⟨_, rfl, a, rfl, ⟨_, (same_upd nD).seq hq1⟩, for_list (xs := xs) (fun i σ H' => (∃ y, σ = [some (.ref a), none, none, some (.ref D), y]) ∧ OwB K (L2.upd H T (.tup [.ty "list", .ty "tuple"])) H' D (ds.take i)) ⟨⟨_, rfl⟩, OwB.new nD⟩ (fun i σ H' _ e => e.2.base.seq hq1) (fun i x σ H' hx e => ?_) (fun σ H' e => ?_)⟩
          · obtain ⟨⟨y, rfl⟩, e⟩ := e
            obtain ⟨d, hdi, dx⟩ := dpAt' all hx
            obtain ⟨ys0, hy0⟩ := e.there
            refine ⟨_, rfl, .inl ⟨rfl, _, SqL.of hy0⟩, _, rfl, x, d, rfl, dp_same (s1.trans e.base) dx, h3 d (List.mem_of_getElem? hdi), fun H3 u S s3 hu nS => ?_⟩
            obtain ⟨ys, hy, ly, put⟩ := e.put s3
            refine ⟨D, ys, _, rfl, rfl, hy, by rw [ly, List.length_take, sizeLine_eq]; omega, ⟨_, rfl⟩, ?_⟩
            rw [take_snoc hdi]
            exact put u d S hu nS
          · obtain ⟨⟨y, rfl⟩, e⟩ := e
            rw [lx, List.take_length] at e
            refine ⟨_, rfl, .ref a, .ty "list", .type "list", .type "list", true, rfl, .ty _, ty_lst (e.base.seq hq1), kit_ty (by decide +kernel), _, rfl, if_yes rfl ⟨_, rfl, ?_⟩⟩
            have base := e.base
            obtain ⟨n, s0, ys, S, hy, al, nS, nD⟩ := e
            refine k _ _ (D :: S) (s1.trans base) (.lst hy al nD) fun b m => ?_
            rcases List.mem_cons.mp m with rfl | m
            · exact s1.free n
            · exact s1.free (nS b m)
        · obtain ⟨a, xs, rfl, hq, all⟩ := dp_tup hv
          have lx := dpLen all
          refine ⟨_, (pss_cons (ps_if (pt_val (pe_callB call_isi (by rfl) B.isi (by decide +kernel) (pa_cons (pv 0) (pa_cons (pe_bltn (v := .ty "dict") (by rfl) B.dict (by decide +kernel) rfl) pa_nil)))) pss_never pss_nil)
            (pss_cons (ps_if (pt_not (pt_val (pe_callB call_isiT (by rfl) B.isi (by decide +kernel) (pa_cons (pv 0) (pa_cons (pe_tup (pa_cons (pe_bltn (v := .ty "list") (by rfl) B.list (by decide +kernel) rfl) (pa_cons (pe_bltn (v := .ty "tuple") (by rfl) B.tuple (by decide +kernel) rfl) pa_nil))) pa_nil))))) pss_never pss_nil)
            (pss_cons (ps_set (i := 3) scFr.nd rfl (.inl rfl) (pe_lst pa_nil))
            (pss_cons (ps_for PassesOwn.never rfl (pi_tup (pv 0)) (pg_name (i := 4) scFr.nd rfl (.inl rfl))
              (pss_one (ps_expr (pe_bm PySem.F.plainAttrs_list PySem.F.slot_list_append PySem.F.type_list_append mt_append (pv 3) (pa_cons (pe_call GFr hr rfl g F.kp b .nil pass0 (pa_cons (pv 4) pa_nil)) pa_nil)))))
            (pss_one (ps_ret (pe_ifExp (pt_val (pe_callB call_isi (by rfl) B.isi (by decide +kernel) (pa_cons (pv 0) (pa_cons (pe_bltn (v := .ty "list") (by rfl) B.list (by decide +kernel) rfl) pa_nil)))) pe_never (pe_callTy call_tuple_of (by rfl) B.tuple (by decide +kernel) (pa_cons (pv 3) pa_nil))))))))), ?_⟩
          refine ⟨_, rfl, .ref a, .ty "dict", .type "tuple", .type "dict", false, rfl, .ty _, ty_tup hq, kit_ty (by decide +kernel), _, rfl, if_no rfl ?_⟩
          refine ⟨_, rfl, (by decide : 2 ≤ sizeLine), fun T nT => ?_⟩
          have s1 := same_upd (o := .tup [.ty "list", .ty "tuple"]) nT
          have hq1 := sqT_same s1 hq
          refine ⟨.ref a, T, _, .type "tuple", [.type "list", .type "tuple"], true, rfl, upd_same, .cons (.ty _) (.cons (.ty _) .nil), ty_tup hq1, kan (kit_ty (by decide +kernel)) (kay (kit_ty (by decide +kernel))), _, rfl, if_no rfl ?_⟩
          refine ⟨(by decide : 0 ≤ sizeLine), fun D nD => ?_⟩
          refine ⟨_, rfl, a, rfl, ⟨_, sqT_same (same_upd nD) hq1⟩, for_it (walk_tup (xs := xs)) (fun i σ H' => (∃ y, σ = [some (.ref a), none, none, some (.ref D), y]) ∧ OwB K (L2.upd H T (.tup [.ty "list", .ty "tuple"])) H' D (ds.take i)) ⟨⟨_, rfl⟩, OwB.new nD⟩ (fun i σ H' _ e => sqT_same e.2.base hq1) (fun i x σ H' H2 hi e hx => ?_) (fun σ H' e => ?_)⟩
          · obtain ⟨⟨y, rfl⟩, e⟩ := e
            obtain ⟨rfl, hx⟩ := hx
            obtain ⟨d, hdi, dx⟩ := dpAt' all hx
            obtain ⟨ys0, hy0⟩ := e.there
            refine ⟨_, rfl, .inl ⟨rfl, _, SqL.of hy0⟩, _, rfl, x, d, rfl, dp_same (s1.trans e.base) dx, h3 d (List.mem_of_getElem? hdi), fun H3 u S s3 hu nS => ?_⟩
            obtain ⟨ys, hy, ly, put⟩ := e.put s3
            refine ⟨D, ys, _, rfl, rfl, hy, by rw [ly, List.length_take, sizeLine_eq]; omega, ⟨_, rfl⟩, ?_⟩
            rw [take_snoc hdi]
            exact put u d S hu nS
          · obtain ⟨⟨y, rfl⟩, e⟩ := e
            rw [lx, List.take_length] at e
            refine ⟨_, rfl, .ref a, .ty "list", .type "tuple", .type "list", false, rfl, .ty _, ty_tup (sqT_same e.base hq1), kit_ty (by decide +kernel), _, rfl, if_no rfl ⟨_, rfl, ?_⟩⟩
            have base := e.base
            obtain ⟨n, s0, ys, S, hy, al, nS, nD⟩ := e
            refine ⟨D, ys, rfl, .inl ⟨SqL.of hy, fun l hl => ?_⟩⟩
            have s4 := same_upd (o := .tup ys) hl
            exact k _ _ S ((s1.trans base).trans s4) (.tup (SqT.of upd_same) (owAll_same s4 al)) fun b m => s1.free (nS b m)
end
end Qb
end PySem
namespace PySem
namespace Qb
open PySem.W PySem.Calls PyProof.Rows L2
/-! # what a sum comes to -/
structure Ev where
  nm : Str → Str
  ar : List Str
inductive Er where
  | noI (x : Str)
  | great (t : Sm)
  | zero (t : Sm)
def Er.d : Er → PyData
  | .noI x => .str x
  | .great t => t.d
  | .zero t => t.d
def Er.k : Er → Str
  | .noI _ => "NoInteger"
  | .great _ => "TooGreat"
  | .zero _ => "DividedByZero"
inductive Rs where
  | ok (i : Int)
  | er (e : Er)
def Rs.d : Rs → PyData
  | .ok i => .tuple [.str "number", .int i]
  | .er e => .tuple [.str e.k, e.d]
/-- the figures behind a sign -/
def figs : L → L
  | 45 :: r => r
  | r => r
def neg (l : L) : Bool := l.head? == some 45
/-- the figures are those of a number -/
def figB (l : L) : Bool := !(figs l).isEmpty && (figs l).all fun c => decide (c ∈ digC)
def intB (l : L) : Bool := figB l && (decide (l = [48]) || !((figs l).head? == some 48))
def numL (l : L) : Int := if neg l then -((digVal (figs l) : Nat) : Int) else ((digVal (figs l) : Nat) : Int)
def numO (x : Str) : Option Int := if cs x = [] then some 0 else if intB (cs x) && decide ((figs (cs x)).length ≤ 40) then some (numL (cs x)) else none
def wSp : List Str := ["#", "?", "0"]
def named (w : Str) : Bool := isNm (cs w) || decide (w ∈ wSp)
def txt (E : Ev) (w : Str) : Str := if named w then E.nm w else if digVal (cs w) ≤ E.ar.length then (E.ar[digVal (cs w) - 1]?).getD "" else ""
def cutQ (a b : Int) : Int := if decide (a < 0) = decide (b < 0) then ((a.natAbs / b.natAbs : Nat) : Int) else -((a.natAbs / b.natAbs : Nat) : Int)
def cmpB (s : Str) (a b : Int) : Bool := if s = "<" then decide (a < b) else if s = "<=" then decide (a ≤ b) else if s = ">" then decide (a > b) else if s = ">=" then decide (a ≥ b) else if s = "==" then decide (a = b) else decide (a ≠ b)
def top40 : Int := 10 ^ 40
def chk (t : Sm) (i : Int) : Rs := if top40 ≤ (i.natAbs : Int) then .er (.great t) else .ok i
/-- two numbers joined by the sign s of the sum t -/
def jn (t : Sm) (s : Str) (a b : Int) : Rs := if s = "*" then chk t (a * b) else if s = "+" then chk t (a + b) else if s = "-" then chk t (a - b) else
  if s = "/" ∨ s = "^" then (if b = 0 then .er (.zero t) else chk t (if s = "/" then cutQ a b else a - b * cutQ a b)) else .ok (if cmpB s a b then 1 else 0)
def Rs.then (r : Rs) (f : Int → Rs) : Rs := match r with
  | .ok i => f i
  | .er e => .er e
def tru (b : Bool) : Rs := .ok (if b then 1 else 0)
def vl (E : Ev) : Sm → Rs
  | .num n => chk (.num n) n
  | .of w => match numO (txt E w) with
    | some i => .ok i
    | none => .er (.noI (txt E w))
  | .one s a => (vl E a).then fun i => if s = "minus" then .ok (-i) else tru (decide (i = 0))
  | .two s a b => (vl E a).then fun i => if s = "&&" ∧ i = 0 then .ok 0 else if s = "||" ∧ i ≠ 0 then .ok 1 else
      (vl E b).then fun j => if s = "&&" ∨ s = "||" then tru (decide (j ≠ 0)) else jn (.two s a b) s i j
  | .three _ a b c => (vl E a).then fun i => if i ≠ 0 then vl E b else vl E c
def Rs.fin : Rs → Prop
  | .ok i => (i.natAbs : Int) < top40
  | .er _ => True
theorem chk_fin (t : Sm) (i : Int) : (chk t i).fin := by
  unfold chk
  split
  · trivial
  · show (i.natAbs : Int) < top40
    omega
theorem tru_fin (b : Bool) : (tru b).fin := by cases b <;> (show ((_ : Nat) : Int) < top40; decide)
theorem jn_fin (t : Sm) (s : Str) (a b : Int) : (jn t s a b).fin := by
  unfold jn
  repeat' split
  all_goals first | exact chk_fin _ _ | trivial | (show ((_ : Nat) : Int) < top40; decide)
theorem then_fin {r : Rs} {f : Int → Rs} (h : ∀ i, (f i).fin) : (r.then f).fin := by
  cases r with
  | ok i => exact h i
  | er e => trivial
theorem then_fin' {r : Rs} {f : Int → Rs} (h0 : r.fin) (h : ∀ i, (Rs.ok i).fin → (f i).fin) : (r.then f).fin := by
  cases r with
  | ok i => exact h i h0
  | er e => trivial
theorem numL_fin {l : L} (h : figB l = true) (h40 : (figs l).length ≤ 40) : ((numL l).natAbs : Int) < top40 := by
  unfold figB at h
  rw [Bool.and_eq_true, List.all_eq_true] at h
  have lt := digVal_lt (figs l) fun c m => of_decide_eq_true (h.2 c m)
  have z : (10 : Nat) ^ (figs l).length ≤ 10 ^ 40 := Nat.pow_le_pow_right (by decide) h40
  have y : digVal (figs l) < 10 ^ 40 := Nat.lt_of_lt_of_le lt z
  have e : (numL l).natAbs = digVal (figs l) := by
    unfold numL
    split
    · rw [Int.natAbs_neg, Int.natAbs_natCast]
    · rw [Int.natAbs_natCast]
  rw [e]
  show ((digVal (figs l) : Nat) : Int) < 10 ^ 40
  exact_mod_cast y
theorem numO_fin {x : Str} {i : Int} (h : numO x = some i) : (Rs.ok i).fin := by
  unfold numO at h
  split at h
  · cases h
    show ((_ : Nat) : Int) < top40
    decide
  · split at h
    · rename_i h2
      cases h
      rw [Bool.and_eq_true] at h2
      have h3 := h2.1
      unfold intB at h3
      rw [Bool.and_eq_true] at h3
      exact numL_fin h3.1 (of_decide_eq_true h2.2)
    · cases h
theorem vl_fin (E : Ev) : ∀ t, (vl E t).fin
  | .num n => chk_fin _ _
  | .of w => by
    show (match numO (txt E w) with
      | some i => Rs.ok i
      | none => .er (.noI (txt E w))).fin
    cases h : numO (txt E w) with
    | none => trivial
    | some i => exact numO_fin h
  | .one s a => then_fin' (vl_fin E a) fun i hi => by
    split
    · show ((-i).natAbs : Int) < top40
      rw [Int.natAbs_neg]
      exact hi
    · exact tru_fin _
  | .two s a b => then_fin fun i => by
    split
    · show ((_ : Nat) : Int) < top40; decide
    · split
      · show ((_ : Nat) : Int) < top40; decide
      · exact then_fin fun j => by
          split
          · exact tru_fin _
          · exact jn_fin _ _ _ _
  | .three s a b c => then_fin fun i => by
    split
    · exact vl_fin E b
    · exact vl_fin E c
theorem fin_log {i : Int} (h : (i.natAbs : Int) < top40) : i.natAbs < 2 ^ 133 := by
  have e : top40 < ((2 ^ 133 : Nat) : Int) := by decide
  omega
end Qb
end PySem
namespace PySem
namespace Qb
open PySem.W PySem.Calls PyProof.Rows L2
/-! # numbers and texts -/
theorem abs_nat (i : Int) : (if i < 0 then -i else i) = ((i.natAbs : Nat) : Int) := by
  split <;> omega
theorem int_neg {d : L} (hn : d ≠ []) (ha : ∀ c ∈ d, c ∈ digC) (hl : d.length ≤ 80) : PySem.intText? (st (45 :: d)) = some (-((digVal d : Nat) : Int)) := by
  have e := cs_st (45 :: d)
  have z := intText_neg (x := st (45 :: d)) e (fun c m => (by decide : ∀ c ∈ digC, 48 ≤ c ∧ c ≤ 57) c (ha c m)) hn (by rw [len_st, List.length_cons]; omega)
  rw [digVal_eq] at z
  exact z
theorem figs_eq (l : L) : (neg l = true ∧ l = 45 :: figs l) ∨ (neg l = false ∧ figs l = l) := by
  unfold neg
  cases l with
  | nil => exact .inr ⟨rfl, rfl⟩
  | cons c r =>
    by_cases h : c = 45
    · subst h
      exact .inl ⟨rfl, rfl⟩
    · refine .inr ⟨?_, ?_⟩
      · simpa using h
      · unfold figs
        split
        · rename_i e; exact (h (List.cons.inj e).1).elim
        · rfl
theorem figB_iff {l : L} : figB l = true ↔ figs l ≠ [] ∧ ∀ c ∈ figs l, c ∈ digC := by
  unfold figB
  rw [Bool.and_eq_true, List.all_eq_true]
  refine ⟨fun h => ⟨fun z => by rw [z] at h; simp at h, fun c m => of_decide_eq_true (h.2 c m)⟩, fun h => ⟨?_, fun c m => decide_eq_true (h.2 c m)⟩⟩
  cases e : figs l with
  | nil => exact (h.1 e).elim
  | cons c r => rfl
theorem int_num {x : Str} (h : figB (cs x) = true) (hl : (figs (cs x)).length ≤ 80) : PySem.intText? x = some (numL (cs x)) := by
  obtain ⟨h1, h2⟩ := figB_iff.mp h
  rw [← st_cs x]
  rw [cs_st]
  unfold numL
  rcases figs_eq (cs x) with ⟨a, b⟩ | ⟨a, b⟩
  · rw [a, if_pos rfl]
    conv => lhs; rw [b]
    exact int_neg h1 h2 hl
  · rw [a, if_neg (by decide)]
    rw [b] at h1 h2 hl ⊢
    exact int_of h1 h2 hl
theorem lstrip_len {x : Str} (h : figB (cs x) = true) : (Txt.lstripChars x "-").length = (figs (cs x)).length := by
  obtain ⟨h1, h2⟩ := figB_iff.mp h
  have hm : (("-" : Str).cps.contains) = fun c => c == 45 := by
    funext c
    show (#[45] : Array Nat).contains c = _
    by_cases z : c = 45
    · subst z; simp
    · rw [beq_eq_false_iff_ne.mpr z]
      simp [z]
  have lo : stripLo (("-" : Str).cps.contains) true x = if neg (cs x) then 1 else 0 := by
    unfold stripLo
    rw [if_pos rfl, hm]
    show ((cs x).takeWhile fun c => c == 45).length = _
    obtain ⟨c, r, e⟩ : ∃ c r, figs (cs x) = c :: r := by
      cases q : figs (cs x) with
      | nil => exact (h1 q).elim
      | cons c r => exact ⟨c, r, rfl⟩
    have nc : ¬ (c == 45) = true := by
      have m := h2 c (by rw [e]; exact .head _)
      intro z
      rw [beq_iff_eq.mp z] at m
      revert m
      decide
    rcases figs_eq (cs x) with ⟨a, b⟩ | ⟨a, b⟩
    · rw [a, if_pos rfl]
      rw [b, e, List.takeWhile_cons_of_pos (p := fun c => c == 45) (by rfl), List.takeWhile_cons_of_neg (p := fun c => c == 45) nc]
      rfl
    · rw [a, ← b, e, if_neg (by decide), List.takeWhile_cons_of_neg (p := fun c => c == 45) nc]
      rfl
  have ll : x.length = (if neg (cs x) then 1 else 0) + (figs (cs x)).length := by
    rw [len_cs]
    rcases figs_eq (cs x) with ⟨a, b⟩ | ⟨a, b⟩
    · rw [a, if_pos rfl]
      conv => lhs; rw [b]
      rw [List.length_cons]
      omega
    · rw [a, b, if_neg (by decide)]
      omega
  have hi : ∀ lo, stripHi (("-" : Str).cps.contains) false x lo = x.length := fun lo => rfl
  unfold Txt.lstripChars Txt.stripBy
  by_cases c : neg (cs x) = true
  · rw [if_pos c] at lo ll
    have e : stripSame (("-" : Str).cps.contains) true false x = false := by
      unfold stripSame
      rw [lo]
      rfl
    rw [e, if_neg (by decide)]
    unfold stripped
    rw [lo, hi]
    show (x.cps.extract 1 x.length).size = _
    rw [Array.size_extract]
    show min x.length x.length - 1 = _
    omega
  · rw [if_neg c] at lo ll
    have e : stripSame (("-" : Str).cps.contains) true false x = true := by
      unfold stripSame
      rw [lo, hi]
      simp
    rw [e, if_pos rfl]
    omega
def spCq : Sp := fun vs H Q _ => ∃ (i j : Int), vs = [.int i, .int j] ∧ j ≠ 0 ∧ i.natAbs < 2 ^ 133 ∧ j.natAbs < 2 ^ 133 ∧ Q (.int (cutQ i j)) H
def spCm : Sp := fun vs H Q _ => ∃ (x : Str) (i j : Int), vs = [.str x, .int i, .int j] ∧ Q (.bl (cmpB x i j)) H
def spIi : Sp := fun vs H Q _ => ∃ (x : Str), vs = [.str x] ∧ x.length ≤ 1000 ∧ ∀ H', Same H H' → Q (.bl (intB (cs x))) H'
def spNt (CN : Addr) : Sp := fun vs H Q E => ∃ (x : Str), vs = [.str x] ∧ x.length ≤ 1000 ∧ (∀ i, numO x = some i → ∀ H', Same H H' → Q (.int i) H') ∧ (numO x = none → ∀ H', Same H H' → RaisesV E CN (.str x) H')
section
variable {P : Program} {w : World} {K : Frag} {mg : Str → Option Value} {base : Heap}
abbrev sCq : Stmt := top 34
abbrev nCq : List Str := ["one", "other", "quotient"]
theorem scCq : FnScope nCq ["one", "other"] (defScope sCq) := ⟨rfl, rfl, rfl, by decide +kernel, rfl, by decide +kernel, by decide +kernel⟩
theorem has_Cq {f : Addr} {fd : FuncData}  (F : Fun K "cut_quotient" "cut_quotient" sCq f fd) (g : mg "cut_quotient" = some (.ref f)) (B : Blt mg)  :
    Has P w K mg base 1 "cut_quotient" ["one", "other"] (spCq) := by
  refine has_of F g (F.binds (ps := ["one", "other"]) fun _ _ _ _ _ _ us hl => match us, hl with | [_, _], _ => rfl) (F.ok scCq (fun vs H Q E h => ?_) (fun cdv A outer s H vs Q E hr h => ?_))
  · obtain ⟨i, j, rfl, _⟩ := h
    rfl
  · refine ⟨_, (pss_cons (ps_set (i := 2) scCq.nd rfl (.inl rfl) (pe_op op_fdivW (pe_callB call_abs (by rfl) B.abs (by decide +kernel) (pa_cons (pv 0) pa_nil)) (pe_callB call_abs (by rfl) B.abs (by decide +kernel) (pa_cons (pv 1) pa_nil))))
        (pss_one (ps_ret (pe_ifExp (pt_cmpR op_eq (pe_cmpR op_lt (pv 0) pe_int (nomark _)) (pe_cmpR op_lt (pv 1) pe_int (nomark _)) (nomark _)) (pv 2) (pe_un un_neg (pv 2)))))), ?_⟩
    obtain ⟨i, j, rfl, h0, h1, h2, k⟩ := h
    have e1 := abs_nat i
    have e2 := abs_nat j
    refine ⟨_, rfl, _, rfl, _, rfl, _, rfl, _, _, rfl, rfl, ?_, ?_⟩
    · rw [e2]
      exact wide_div (b := 200) (by omega) (by rw [Int.natAbs_natCast]; exact Nat.lt_trans h2 (by decide)) (by decide) (by decide)
    · rw [e1, e2]
      refine ⟨_, rfl, _, _, rfl, rfl, _, rfl, _, _, rfl, rfl, rfl, _, rfl, ?_⟩
      have ed : (((i.natAbs : Nat) : Int) / ((j.natAbs : Nat) : Int)) = ((i.natAbs / j.natAbs : Nat) : Int) := rfl
      unfold cutQ at k
      refine if_by (fun e => ⟨_, rfl, ?_⟩) (fun e => ⟨_, rfl, _, rfl, ?_⟩)
      · have e' := V.bl.inj (of_decide_eq_true e)
        rw [if_pos e'] at k
        exact k
      · rw [if_neg fun z => of_decide_eq_false e (congrArg V.bl z)] at k
        exact k
abbrev sCm : Stmt := top 35
abbrev nCm : List Str := ["sign", "one", "other"]
theorem scCm : FnScope nCm ["sign", "one", "other"] (defScope sCm) := ⟨rfl, rfl, rfl, by decide +kernel, rfl, by decide +kernel, by decide +kernel⟩
theorem lit_case {c x : Str} {t : TS} {rest : List (List Nat × PatR × TS)} {D : Ends} {σ : L2.St} {H : Hp} (a : x = c → t D σ H) (b : x ≠ c → tCases rest (.str x) D σ H) : tCases (([], rLit c, t) :: rest) (.str x) D σ H := by
  refine ⟨x, rfl, ?_⟩
  by_cases e : x = c
  · rw [if_pos e]
    exact a e
  · rw [if_neg e]
    exact b e
theorem has_Cm {f : Addr} {fd : FuncData}  (F : Fun K "compared" "compared" sCm f fd) (g : mg "compared" = some (.ref f)) (B : Blt mg)  :
    Has P w K mg base 1 "compared" ["sign", "one", "other"] (spCm) := by
  refine has_of F g (F.binds (ps := ["sign", "one", "other"]) fun _ _ _ _ _ _ us hl => match us, hl with | [_, _, _], _ => rfl) (F.ok scCm (fun vs H Q E h => ?_) (fun cdv A outer s H vs Q E hr h => ?_))
  · obtain ⟨x, i, j, rfl, _⟩ := h
    rfl
  · refine ⟨_, (pss_cons (ps_match (pv 0)
        (pcs_cons (is := []) scCm.nd pp_lit .nil
          (pss_one (ps_ret (pe_cmpR op_lt (pv 1) (pv 2) (nomark _))))
        (pcs_cons (is := []) scCm.nd pp_lit .nil
          (pss_one (ps_ret (pe_cmpR op_le (pv 1) (pv 2) (nomark _))))
        (pcs_cons (is := []) scCm.nd pp_lit .nil
          (pss_one (ps_ret (pe_cmpR op_gt (pv 1) (pv 2) (nomark _))))
        (pcs_cons (is := []) scCm.nd pp_lit .nil
          (pss_one (ps_ret (pe_cmpR op_ge (pv 1) (pv 2) (nomark _))))
        (pcs_cons (is := []) scCm.nd pp_lit .nil
          (pss_one (ps_ret (pe_cmpR op_eq (pv 1) (pv 2) (nomark _)))) pcs_nil))))))
        (pss_one (ps_ret (pe_cmpR op_ne (pv 1) (pv 2) (nomark _))))), ?_⟩
    obtain ⟨x, i, j, rfl, k⟩ := h
    unfold cmpB at k
    refine ⟨_, rfl, lit_case (fun e => ?_) fun n1 => lit_case (fun e => ?_) fun n2 => lit_case (fun e => ?_) fun n3 => lit_case (fun e => ?_) fun n4 => lit_case (fun e => ?_) fun n5 => ?_⟩
    · rw [if_pos e] at k
      exact ⟨_, rfl, _, rfl, _, _, rfl, rfl, k⟩
    · rw [if_neg n1, if_pos e] at k
      exact ⟨_, rfl, _, rfl, _, _, rfl, rfl, k⟩
    · rw [if_neg n1, if_neg n2, if_pos e] at k
      exact ⟨_, rfl, _, rfl, _, _, rfl, rfl, k⟩
    · rw [if_neg n1, if_neg n2, if_neg n3, if_pos e] at k
      exact ⟨_, rfl, _, rfl, _, _, rfl, rfl, k⟩
    · rw [if_neg n1, if_neg n2, if_neg n3, if_neg n4, if_pos e] at k
      refine ⟨_, rfl, _, rfl, rfl, ?_⟩
      rw [show decide (V.int i = V.int j) = decide (i = j) from decide_eq_decide.mpr ⟨V.int.inj, congrArg V.int⟩]
      exact k
    · rw [if_neg n1, if_neg n2, if_neg n3, if_neg n4, if_neg n5] at k
      refine ⟨_, rfl, _, rfl, rfl, ?_⟩
      have e : (!decide (V.int i = V.int j)) = decide (i ≠ j) := by
        by_cases c : i = j
        · subst c; simp
        · rw [decide_eq_false (fun z => c (V.int.inj z)), decide_eq_true c]; rfl
      rw [e]
      exact k
end
end Qb
end PySem
namespace PySem
namespace Qb
open PySem.W PySem.Calls PyProof.Rows L2
/-! # a statement whose ends are joined -/
def tWeak (t : TS) : TS := fun D σ H => ∃ G : L2.St → Hp → Prop, (∀ σ' H', G σ' H' → D.nx σ' H') ∧ t { D with nx := G } σ H
theorem ps_weak {X : Cx} {st : Stmt} {t : TS} (h : PS X st t) : PS X st (tWeak t) := by
  refine ⟨fun pins s σ H D I ⟨G, hG, q⟩ => wpAny_mono (h.run pins s σ H { D with nx := G } I q) (fun fl s1 hs => ?_) fun _ _ y => y⟩
  cases fl with
  | next =>
    obtain ⟨σ1, H1, J, z⟩ := hs
    exact ⟨σ1, H1, J, hG _ _ z⟩
  | brk => exact hs
  | cont => exact hs
  | ret u => exact hs
theorem cut_to' (x : Str) (i : Nat) : cs (cutS x none (some ((i : Nat) : Int))) = (cs x).take i := by
  show ((cs x).drop (HT.sIx x.length 0 none)).take (HT.sIx x.length x.length (some ((i : Nat) : Int)) - HT.sIx x.length 0 none) = _
  rw [HT.sIx_nat, show HT.sIx x.length 0 none = 0 by rfl, List.drop_zero, Nat.sub_zero]
  by_cases h : i ≤ x.length
  · rw [Nat.min_eq_left h]
  · rw [Nat.min_eq_right (by omega), List.take_of_length_le (by rw [← len_cs]; exact Nat.le_refl _), List.take_of_length_le (by rw [← len_cs]; omega)]
theorem cut_from' (x : Str) {i : Nat} (h : i ≤ x.length) : cs (cutS x (some ((i : Nat) : Int)) none) = (cs x).drop i := by
  show ((cs x).drop (HT.sIx x.length 0 (some ((i : Nat) : Int)))).take (HT.sIx x.length x.length none - HT.sIx x.length 0 (some ((i : Nat) : Int))) = _
  rw [HT.sIx_nat, Nat.min_eq_left h, show HT.sIx x.length x.length none = x.length by rfl]
  exact List.take_of_length_le (by rw [List.length_drop, ← len_cs]; exact Nat.le_refl _)
theorem one_is (c d : Nat) (y : Str) (h : cs y = [d]) : decide (V.str (⟨#[c]⟩ : Str) = V.str y) = (c == d) := by
  by_cases e : c = d
  · subst e
    rw [show y = (⟨#[c]⟩ : Str) by rw [← st_cs y, h]; rfl]
    simp
  · rw [beq_eq_false_iff_ne.mpr e]
    refine decide_eq_false fun z => e ?_
    have w : cs (⟨#[c]⟩ : Str) = cs y := congrArg cs (V.str.inj z)
    rw [h] at w
    exact (List.cons.inj w).1
theorem first_neg (x : Str) : decide (V.str (cutS x none (some 1)) = V.str "-") = neg (cs x) := by
  have e : cs (cutS x none (some 1)) = (cs x).take 1 := cut_to' x 1
  have e2 : cs ("-" : Str) = [45] := by decide +kernel
  have e3 : decide (V.str (cutS x none (some 1)) = V.str "-") = decide ((cs x).take 1 = [45]) := decide_eq_decide.mpr ⟨fun z => by rw [← e, V.str.inj z, e2], fun z => by rw [← e] at z; rw [← st_cs (cutS x none (some 1)), z, ← e2, st_cs]⟩
  rw [e3]
  unfold neg
  cases cs x with
  | nil => rfl
  | cons c r =>
    by_cases h : c = 45
    · subst h; simp
    · simp [h]
theorem figs_neg {x : Str} (h : neg (cs x) = true) : cs (cutS x (some 1) none) = figs (cs x) := by
  have e : cs x = 45 :: figs (cs x) := by
    rcases figs_eq (cs x) with ⟨a, b⟩ | ⟨a, b⟩
    · exact b
    · rw [h] at a; cases a
  have l : 1 ≤ x.length := by rw [len_cs, e, List.length_cons]; omega
  have z : cs (cutS x (some 1) none) = (cs x).drop 1 := cut_from' x l
  rw [z]
  conv => lhs; rw [e]
  rfl
section
variable {P : Program} {w : World} {K : Frag} {mg : Str → Option Value} {base : Heap}
abbrev sIi : Stmt := top 38
abbrev nIi : List Str := ["text", "figures", "sign"]
theorem scIi : FnScope nIi ["text"] (defScope sIi) := ⟨rfl, rfl, rfl, by decide +kernel, rfl, by decide +kernel, by decide +kernel⟩
theorem has_Ii {f : Addr} {fd : FuncData}  (F : Fun K "is_integer" "is_integer" sIi f fd) (g : mg "is_integer" = some (.ref f)) (B : Blt mg) (W : Wrt K w mg) :
    Has P w K mg base 1 "is_integer" ["text"] (spIi) := by
  refine has_of F g (F.binds (ps := ["text"]) fun _ _ _ _ _ _ us hl => match us, hl with | [_], _ => rfl) (F.ok scIi (fun vs H Q E h => ?_) (fun cdv A outer s H vs Q E hr h => ?_))
  · obtain ⟨x, rfl, _⟩ := h
    rfl
  · refine ⟨_, (pss_cons (ps_weak (ps_set (i := 1) scIi.nd rfl (.inl rfl) (pe_ifExp (pt_cmpR op_eq (pe_slice sl_str (pv 0) po_none (po_some pe_int)) pe_str (nomark _)) (pe_slice sl_str (pv 0) (po_some pe_int) po_none) (pv 0))))
        (pss_cons (ps_if (PW.pt (pw_or (pt_cmpR op_eq (pv 1) pe_str (nomark _)) (pw_or1 (pt_not (pt_val (pe_callB (cr_all rfl) (by rfl) B.all (by decide +kernel) (pa_cons (pe_lc (own := [("sign", 2)]) (g := gName 2) (tt := tYes) rfl scIi.nd (pi_str (pv 1)) (blkOk_by (N := nIi) (sc := defScope sIi) (by decide +kernel)) (fun _ _ _ _ _ => pg_name (i := 2) scIi.nd rfl (.inl rfl)) (fun _ _ _ _ _ => pts_nil) (fun _ _ _ _ _ => (pe_cmpR op_in_sign (pv 2) (glob_str (by rfl) W.dig) (by rfl)))) pa_nil))))))) (pss_one (ps_ret pe_bl)) pss_nil)
        (pss_one (ps_ret (pe_or (pe_cmpR op_eq (pv 0) pe_str (nomark _)) (pe_one (pe_cmpR op_ne (pe_ix ix_str (pv 1) pe_int (fun _ _ => rfl)) pe_str (nomark _)))))))), ?_⟩
    obtain ⟨x, rfl, hx, k⟩ := h
    have hz : x.length ≤ sizeLine := line_small (by omega)
    refine ⟨fun σ' H' => H' = H ∧ ∃ y : Str, σ' = [some (.str x), some (.str y), none] ∧ cs y = figs (cs x), ?_, ?_⟩
    · rintro σ' H' ⟨rfl, y, rfl, ey⟩
      have yl : y.length ≤ 1000 := by
        rw [len_cs, ey]
        have := len_cs x
        rcases figs_eq (cs x) with ⟨_, b⟩ | ⟨_, b⟩
        · have := congrArg List.length b
          rw [List.length_cons] at this
          omega
        · rw [b]; omega
      have done : ∀ b H1, intB (cs x) = b → Same H' H1 → Q (.bl b) H1 := fun b H1 e s => by
        have z := k H1 s
        rw [e] at z
        exact z
      refine ⟨_, rfl, rfl, _, rfl, ?_⟩
      by_cases h0 : y = ("" : Str)
      · refine if_yes (by rw [h0]; decide +kernel) (if_yes rfl (done false H' ?_ (Same.refl _)))
        have e0 : figs (cs x) = [] := by rw [← ey, h0]; decide +kernel
        unfold intB figB
        rw [e0]
        rfl
      · refine if_no (decide_eq_false fun z => h0 (V.str.inj z)) ?_
        obtain ⟨c, r, hl⟩ : ∃ c r, cs y = c :: r := by
          cases e : cs y with
          | nil => exact absurd (cs_nil e) h0
          | cons c r => exact ⟨c, r, rfl⟩
        refine ⟨_, rfl, y, rfl, fun D hD => lc_it walk_str (fun i H1 => H1 = L2.upd H' D (.lst (((cs y).take i).map fun d => V.bl (decide (d ∈ cs digS))))) (by simp) (fun _ _ _ _ => trivial) (fun i v H1 H2 hi e yy => ?_) (fun H1 e => ?_)⟩
        · obtain ⟨rfl, d, hd, rfl⟩ := yy
          subst e
          have hd' : (cs y)[i]? = some d := by simpa using hd
          refine ⟨rfl, _, rfl, d, digS, rfl, rfl, _, upd_same, ?_, ?_⟩
          · rw [List.length_map, List.length_take]
            have := len_cs y
            rw [sizeLine_eq]
            omega
          · rw [upd_upd, take_snoc hd', List.map_append]
            rfl
        · subst e
          have e2 : (cs y).take y.cps.size = cs y := List.take_of_length_le (by simp)
          rw [e2]
          refine ⟨D, (cs y).map fun d => decide (d ∈ cs digS), rfl, SqL.of (by rw [upd_same, List.map_map]; rfl), _, rfl, ?_⟩
          have ea : ((cs y).map fun d => decide (d ∈ cs digS)).all id = (figs (cs x)).all fun d => decide (d ∈ digC) := by
            rw [List.all_map, ey, cs_dig]
            rfl
          have ne : (figs (cs x)).isEmpty = false := by rw [← ey, hl]; rfl
          rw [ea]
          cases eb : (figs (cs x)).all fun d => decide (d ∈ digC) with
          | false =>
            refine if_yes rfl (done false _ ?_ (same_upd hD))
            unfold intB figB
            rw [eb, Bool.and_false, Bool.false_and]
          | true =>
            have sD : Same H' (L2.upd H' D (.lst ((cs y).map fun d => V.bl (decide (d ∈ cs digS))))) := same_upd hD
            have fb : figB (cs x) = true := by
              unfold figB
              rw [ne, eb]
              rfl
            refine if_no rfl ⟨_, rfl, rfl, _, rfl, ?_⟩
            have q0 : decide (V.str x = V.str "0") = decide (cs x = [48]) := decide_eq_decide.mpr ⟨fun z => by rw [V.str.inj z]; decide +kernel, fun z => by rw [← st_cs x, z]; decide +kernel⟩
            rw [q0]
            have fin : ∀ H1, Same H' H1 → Q (.bl (decide (cs x = [48]) || !((figs (cs x)).head? == some 48))) H1 := fun H1 s => by
              have z := k H1 s
              unfold intB at z
              rw [fb, Bool.true_and] at z
              exact z
            cases e48 : decide (cs x = [48]) with
            | true =>
              have z := fin _ sD
              rw [e48] at z
              exact if_yes rfl z
            | false =>
              refine if_no rfl ⟨_, rfl, y, 0, c, rfl, rfl, line_small (by omega), atI_nat (j := 0) (congrArg (fun l : L => l[0]?) hl), rfl, ?_⟩
              have z := fin _ sD
              rw [e48, ← ey, show (cs y).head? = some c by rw [hl]; rfl] at z
              rw [one_is c 48 "0" (by decide +kernel)]
              exact z
    · refine ⟨_, rfl, _, rfl, x, rfl, hz, rfl, _, rfl, ?_⟩
      rw [first_neg]
      refine if_by (fun e => ⟨_, rfl, _, rfl, x, rfl, hz, ⟨rfl, _, rfl, figs_neg e⟩⟩) (fun e => ⟨_, rfl, ⟨rfl, _, rfl, ?_⟩⟩)
      rcases figs_eq (cs x) with ⟨a, b⟩ | ⟨a, b⟩
      · rw [e] at a; cases a
      · exact b.symm
abbrev sNt : Stmt := top 37
abbrev nNt : List Str := ["text"]
theorem scNt : FnScope nNt ["text"] (defScope sNt) := ⟨rfl, rfl, rfl, by decide +kernel, rfl, by decide +kernel, by decide +kernel⟩
theorem has_Nt {f : Addr} {fd : FuncData} {fI : Addr} (EGi : EG K fI) {CN : Addr} {mN : List Value} (TN : EC K mg fI "NoInteger" CN mN) {dI : FuncData} (GIn : FnOk P w K mg base CX0 1 fI dI ["self", "value"] (spInit K)) (bIn : Binds K dI ["self", "value"] []) (F : Fun K "number_told" "number_told" sNt f fd) (g : mg "number_told" = some (.ref f)) (B : Blt mg) (W : Wrt K w mg) (hIi : Has P w K mg base 1 "is_integer" ["text"] (spIi)) :
    HasX P w K mg base 3 "number_told" ["text"] (spNt CN) := by
  obtain ⟨fIi, dIi, gIi, kIi, bIi, GIi⟩ := hIi
  refine hasX_of F g (F.binds (ps := ["text"]) fun _ _ _ _ _ _ us hl => match us, hl with | [_], _ => rfl) (F.okX scNt (fun vs H Q E h => ?_) (fun cdv A outer s H vs Q E hr h => ?_))
  · obtain ⟨x, rfl, _⟩ := h
    rfl
  · refine ⟨_, (pss_cons (ps_if (pt_cmpR op_eq (pv 0) pe_str (nomark _)) (pss_one (ps_ret pe_int)) pss_nil)
        (pss_cons (ps_if (PW.pt (pw_or (pt_not (pt_val (pe_call GIi (hr.mono (by decide)) rfl gIi kIi bIi .nil pass0 (pa_cons (pv 0) pa_nil)))) (pw_or1 (pt_cmpR op_gt (pe_callB call_len (by rfl) B.len PySem.boot_len (pa_cons (pe_bm PySem.F.plainAttrs_str PySem.F.slot_str_lstrip PySem.F.type_str_lstrip mt_lstripChars (pv 0) (pa_cons pe_str pa_nil)) pa_nil)) (glob_int (by rfl) W.mf) (nomark _))))) (pss_one (ps_raise rfl (takes_of rfl rfl rfl rfl) (pmk_oex TN.oex TN.iC EGi.tI GIn (hr.mono (by decide)) bIn .nil pass0 (by rfl) TN.gC (by exact (pa_cons (pv 0) pa_nil))))) pss_nil)
        (pss_one (ps_ret (pe_callTy call_int_str (by rfl) B.int (by decide +kernel) (pa_cons (pv 0) pa_nil)))))), ?_⟩
    obtain ⟨x, rfl, hx, k1, k0⟩ := h
    refine ⟨_, rfl, rfl, _, rfl, ?_⟩
    by_cases h0 : x = ("" : Str)
    · refine if_yes (by rw [h0]; decide +kernel) (k1 0 ?_ H (Same.refl H))
      unfold numO
      rw [if_pos (by rw [h0]; decide +kernel)]
    · refine if_no (decide_eq_false fun z => h0 (V.str.inj z)) ?_
      have n0 : cs x ≠ [] := fun z => h0 (cs_nil z)
      have eO : numO x = if intB (cs x) && decide ((figs (cs x)).length ≤ 40) then some (numL (cs x)) else none := by
        unfold numO
        rw [if_neg n0]
      have bad : ∀ (H1 : Hp), Same H H1 → numO x = none → RaisesV _ CN (.str x) H1 := fun H1 s e => k0 e H1 s
      refine ⟨_, rfl, x, rfl, hx, fun H1 s1 => ⟨_, rfl, ?_⟩⟩
      cases ei : intB (cs x) with
      | false =>
        refine if_yes rfl (if_yes rfl ⟨_, rfl, init_end TN.oex TN.no fun d nd' => ?_⟩)
        exact k0 (by rw [eO, ei]; rfl) H1 s1 d nd'
      | true =>
        have fb : figB (cs x) = true := by
          unfold intB at ei
          rw [Bool.and_eq_true] at ei
          exact ei.1
        refine if_no rfl ⟨_, rfl, rfl, x, "-", rfl, rfl, line_small (by omega), .str (Txt.lstripChars x "-"), (Txt.lstripChars x "-").length, rfl, ⟨?_, rfl⟩, _, _, rfl, rfl, _, rfl, ?_⟩
        · rw [lstrip_len fb]
          have := len_cs x
          rcases figs_eq (cs x) with ⟨_, b⟩ | ⟨_, b⟩
          · have := congrArg List.length b
            rw [List.length_cons] at this
            exact line_small (by omega)
          · rw [b]; exact line_small (by omega)
        · rw [lstrip_len fb]
          refine if_by (fun e => ?_) (fun e => ?_)
          · have h41 : ¬ (figs (cs x)).length ≤ 40 := by
              have := of_decide_eq_true e
              omega
            refine ⟨_, rfl, init_end TN.oex TN.no fun d nd' => ?_⟩
            exact k0 (by rw [eO, ei, decide_eq_false h41]; rfl) H1 s1 d nd'
          · have h40 : (figs (cs x)).length ≤ 40 := by
              have := of_decide_eq_false e
              omega
            have xl : x.length ≤ 41 := by
              have := len_cs x
              rcases figs_eq (cs x) with ⟨_, b⟩ | ⟨_, b⟩
              · have := congrArg List.length b
                rw [List.length_cons] at this
                omega
              · rw [b] at h40; omega
            refine ⟨_, rfl, x, _, rfl, int_num fb (by omega), by omega, k1 _ ?_ H1 s1⟩
            rw [eO, ei, decide_eq_true h40]
            rfl
end
end Qb
end PySem
namespace PySem
namespace Qb
open PySem.W PySem.Calls PyProof.Rows L2
/-! # names with values -/
def bkV (ps : List (Str × Str)) : List (Key × V) := ps.map fun p => (Sum.inr p.1, .str p.2)
def nmOf (ps : List (Str × Str)) (w : Str) : Str := ((ps.find? fun p => decide (p.1 = w)).map (·.2)).getD ""
theorem bk_get (ps : List (Str × Str)) (w : Str) : (valV (bkV ps) (Sum.inr w : Key)).getD (.str "") = .str (nmOf ps w) := by
  induction ps with
  | nil => rfl
  | cons p ps ih =>
    by_cases h : p.1 = w
    · have e1 : valV (bkV (p :: ps)) (Sum.inr w : Key) = some (.str p.2) := valV_pos (p := ((Sum.inr p.1 : Key), V.str p.2)) (by rw [h])
      rw [e1]
      unfold nmOf
      rw [List.find?_cons_of_pos (by simpa using h)]
      rfl
    · have e1 : valV (bkV (p :: ps)) (Sum.inr w : Key) = valV (bkV ps) (Sum.inr w : Key) := valV_neg (p := ((Sum.inr p.1 : Key), V.str p.2)) (fun z => h (Sum.inr.inj z))
      rw [e1, ih]
      unfold nmOf
      rw [List.find?_cons_of_neg (by simpa using h)]
/-- a short text -/
def shT (x : Str) : Prop := x.length ≤ 60 ∧ PyData.strOk x = true
theorem shT_nil : shT ("" : Str) := ⟨by decide, by decide +kernel⟩
def Book (H : Hp) (b : Addr) (nm : Str → Str) : Prop := ∃ ps, H b = some (.dK (bkV ps)) ∧ (∀ p ∈ ps, shT p.2) ∧ ∀ w, nmOf ps w = nm w
theorem Book.same {H H' : Hp} {b : Addr} {nm : Str → Str} (h : Book H b nm) (s : Same H H') : Book H' b nm := by
  obtain ⟨ps, e, r⟩ := h
  exact ⟨ps, s _ _ e, r⟩
theorem nm_sh {ps : List (Str × Str)} (h : ∀ p ∈ ps, shT p.2) (w : Str) : shT (nmOf ps w) := by
  unfold nmOf
  cases e : ps.find? fun p => decide (p.1 = w) with
  | none => exact shT_nil
  | some p => exact h p (List.mem_of_find?_eq_some e)
/-- names and arguments -/
structure EvOk (K : Frag) (H : Hp) (b g : Addr) (E : Ev) : Prop where
  bk : Book H b E.nm
  gv : SqL K H g (E.ar.map V.str)
  short : ∀ x ∈ E.ar, shT x
  few : E.ar.length ≤ 1000
theorem EvOk.same {K : Frag} {H H' : Hp} {b g : Addr} {E : Ev} (h : EvOk K H b g E) (s : Same H H') : EvOk K H' b g E := ⟨h.bk.same s, s.seq h.gv, h.short, h.few⟩
theorem txt_sh {K : Frag} {H : Hp} {b g : Addr} {E : Ev} (h : EvOk K H b g E) (w : Str) : shT (txt E w) := by
  unfold txt
  split
  · obtain ⟨ps, _, l, e⟩ := h.bk
    rw [← e]
    exact nm_sh l w
  · split
    · cases e : E.ar[digVal (cs w) - 1]? with
      | none => exact shT_nil
      | some x => exact h.short x (List.mem_of_getElem? e)
    · exact shT_nil
theorem txt_len {K : Frag} {H : Hp} {b g : Addr} {E : Ev} (h : EvOk K H b g E) (w : Str) : (txt E w).length ≤ 60 := (txt_sh h w).1
theorem digVal_ge : ∀ (l : L) (n : Nat), n ≤ l.foldl (fun n c => 10 * n + (c - 48)) n
  | [], n => Nat.le_refl n
  | c :: l, n => Nat.le_trans (by omega) (digVal_ge l (10 * n + (c - 48)))
theorem digVal_pos {l : L} (h : ∀ c ∈ l, c ∈ digC) (n : l ≠ []) (z : l.head? ≠ some 48) : 1 ≤ digVal l := by
  cases l with
  | nil => exact (n rfl).elim
  | cons c r =>
    have hc := h c (.head _)
    have h1 : 1 ≤ c - 48 := (by decide : ∀ c ∈ digC, c ≠ 48 → 1 ≤ c - 48) c hc (fun e => z (by rw [e]; rfl))
    exact Nat.le_trans h1 (Nat.le_trans (by omega) (digVal_ge r (10 * 0 + (c - 48))))
/-- a name or place that may stand in a sum -/
def okW (w : Str) : Prop := w.length ≤ 80 ∧ (named w = true ∨ (cs w ≠ [] ∧ (∀ c ∈ cs w, c ∈ digC) ∧ (cs w).head? ≠ some 48))
theorem okW_of {w : Str} (h : (Sm.of w).nice) (l : w.length ≤ 80) : okW w := by
  refine ⟨l, ?_⟩
  have key : ∀ (x : Str) (c : L), cs x = c → cs w = c → w = x := fun x c e1 e2 => by rw [← st_cs w, e2, ← e1, st_cs]
  rcases h with h | ⟨h, h' | h' | ⟨a, b, c⟩⟩
  · exact .inl (by unfold named; rw [h]; rfl)
  · exact .inl (by rw [key "#" [35] (by decide +kernel) h']; decide +kernel)
  · exact .inl (by rw [key "?" [63] (by decide +kernel) h']; decide +kernel)
  · by_cases z : (cs w).head? = some 48
    · have l1 := c z
      have e : cs w = [48] := by
        cases q : cs w with
        | nil => exact (a q).elim
        | cons x r =>
          rw [q] at z l1
          obtain rfl := Option.some.inj z
          cases r with
          | nil => rfl
          | cons y r => simp at l1
      exact .inl (by rw [key "0" [48] (by decide +kernel) e]; decide +kernel)
    · exact .inr ⟨a, b, z⟩
def spTo (K : Frag) : Sp := fun vs H Q _ => ∃ (x : Str) (b g : Addr) (E : Ev), vs = [.str x, .ref b, .ref g] ∧ EvOk K H b g E ∧ okW x ∧ ∀ H', Same H H' → Q (.str (txt E x)) H'
section
variable {P : Program} {w : World} {K : Frag} {mg : Str → Option Value} {base : Heap}
abbrev sTo : Stmt := top 36
abbrev nTo : List Str := ["name", "names", "arguments", "place"]
theorem scTo : FnScope nTo ["name", "names", "arguments"] (defScope sTo) := ⟨rfl, rfl, rfl, by decide +kernel, rfl, by decide +kernel, by decide +kernel⟩
theorem has_To {f : Addr} {fd : FuncData}  (F : Fun K "text_of" "text_of" sTo f fd) (g : mg "text_of" = some (.ref f)) (B : Blt mg) (hNn : Has P w K mg base 2 "is_name" ["text"] (spNn)) :
    Has P w K mg base 3 "text_of" ["name", "names", "arguments"] (spTo K) := by
  obtain ⟨fNn, dNn, gNn, kNn, bNn, GNn⟩ := hNn
  refine has_of F g (F.binds (ps := ["name", "names", "arguments"]) fun _ _ _ _ _ _ us hl => match us, hl with | [_, _, _], _ => rfl) (F.ok scTo (fun vs H Q E h => ?_) (fun cdv A outer s H vs Q E hr h => ?_))
  · obtain ⟨x, b, g, E, rfl, _⟩ := h
    rfl
  · have hu : (A.deeper (envOfC "text_of" (defScope sTo) s.heap.objs.size f cdv)).units + 1 < cLine := by
      have := hr.un
      omega
    refine ⟨_, (pss_cons (ps_if (PW.pt (pw_or (pt_val (pe_call GNn hr rfl gNn kNn bNn .nil pass0 (pa_cons (pv 0) pa_nil))) (pw_or1 (pt_cmpR op_in_seq (pv 0) (pe_tup (pa_cons pe_str (pa_cons pe_str (pa_cons pe_str pa_nil)))) (by rfl))))) (pss_one (ps_ret (pe_dget2 hu (pv 1) (pv 0) pe_str ⟨rfl, rfl, rfl, rfl⟩))) pss_nil)
        (pss_cons (ps_set (i := 3) scTo.nd rfl (.inl rfl) (pe_callTy call_int_str (by rfl) B.int (by decide +kernel) (pa_cons (pv 0) pa_nil)))
        (pss_one (ps_ret (pe_ifExp (pt_cmpR op_le (pv 3) (pe_callB call_len_seq (by rfl) B.len PySem.boot_len (pa_cons (pv 2) pa_nil)) (nomark _)) (pe_ix ix_list (pv 2) (pe_op op_sub (pv 3) pe_int) (fun _ _ => rfl)) pe_str))))), ?_⟩
    obtain ⟨x, b, g, Ee, rfl, ev, ⟨lx, hw⟩, k⟩ := h
    have get : ∀ (H1 : Hp), Same H H1 → named x = true → ∃ ps, H1 b = some (.dK (bkV ps)) ∧ (valV (bkV ps) (Sum.inr x : Key)).getD (.str "") = .str (txt Ee x) := fun H1 s1 hn => by
      obtain ⟨ps, hb, _, en⟩ := (ev.same s1).bk
      refine ⟨ps, hb, ?_⟩
      rw [bk_get, en]
      unfold txt
      rw [if_pos hn]
    refine ⟨_, rfl, x, rfl, Nat.le_trans lx (by decide), fun H1 s1 => ⟨_, rfl, ?_⟩⟩
    rw [name_nm]
    cases e : isNm (cs x) with
    | true =>
      obtain ⟨ps, hb, eg⟩ := get H1 s1 (by unfold named; rw [e]; rfl)
      refine if_yes rfl (if_yes rfl ⟨_, rfl, b, rfl, .inl ⟨_, .inl hb⟩, _, rfl, _, DGet.k (k := Sum.inr x) hb, ?_⟩)
      rw [eg]
      exact k H1 s1
    | false =>
      refine if_no rfl ⟨_, rfl, (by decide : 3 ≤ sizeLine), fun T nT => ?_⟩
      have s2 := s1.trans (same_upd (o := .tup (wSp.map V.str)) nT)
      refine ⟨T, wSp.map V.str, rfl, .inr (SqT.of upd_same), rfl, by decide +kernel, _, rfl, ?_⟩
      dsimp only
      rw [if_neg (by decide : ¬ false = true), inV_iff]
      have en : named x = decide (x ∈ wSp) := by unfold named; rw [e]; rfl
      refine if_by (fun e2 => ?_) (fun e2 => ?_)
      · obtain ⟨ps, hb, eg⟩ := get _ s2 (by rw [en]; exact e2)
        refine ⟨_, rfl, b, rfl, .inl ⟨_, .inl hb⟩, _, rfl, _, DGet.k (k := Sum.inr x) hb, ?_⟩
        rw [eg]
        exact k _ s2
      have hn : named x = false := by rw [en]; exact e2
      rcases hw with hw | ⟨h1, h2, h3⟩
      · rw [hn] at hw; cases hw
      have pos := digVal_pos h2 h1 h3
      have l2 := len_cs x
      have it := int_of h1 h2 (by omega)
      rw [st_cs] at it
      have z := k _ s2
      unfold txt at z
      rw [hn, if_neg (by decide)] at z
      refine ⟨_, rfl, x, _, rfl, it, by omega, ?_⟩
      refine ⟨_, rfl, _, rfl, g, _, rfl, .inl (s2.seq ev.gv), _, _, rfl, rfl, _, rfl, ?_⟩
      rw [List.length_map]
      refine if_by (fun e3 => ?_) (fun e3 => ?_)
      · have hle : digVal (cs x) ≤ Ee.ar.length := by
          have := of_decide_eq_true e3
          omega
        rw [if_pos hle] at z
        obtain ⟨y, hy⟩ : ∃ y, Ee.ar[digVal (cs x) - 1]? = some y := ⟨_, List.getElem?_eq_getElem (by omega)⟩
        rw [hy] at z
        refine ⟨_, rfl, _, rfl, _, _, rfl, rfl, g, _, _, _, rfl, rfl, s2.seq ev.gv, ?_, z⟩
        rw [show ((digVal (cs x) : Nat) : Int) - 1 = ((digVal (cs x) - 1 : Nat) : Int) by omega]
        exact atI_nat (by rw [List.getElem?_map, hy]; rfl)
      · have hle : ¬ digVal (cs x) ≤ Ee.ar.length := by
          have := of_decide_eq_false e3
          omega
        rw [if_neg hle] at z
        exact z
end
end Qb
end PySem
namespace PySem
namespace Qb
open PySem.W PySem.Calls PyProof.Rows L2
/-! # sums worked out -/
def cl (CN CG CZ : Addr) : Er → Addr
  | .noI _ => CN
  | .great _ => CG
  | .zero _ => CZ
def Rz (K : Frag) (CN CG CZ : Addr) (r : Rs) (H : Hp) (Q : VK) (E : XK) : Prop := ∀ H', Same H H' → (∀ i, r = .ok i → Q (.int i) H') ∧ ∀ e, r = .er e → ∀ u, Dp K H' u e.d → RaisesV E (cl CN CG CZ e) u H'
section
variable {K : Frag} {CN CG CZ : Addr}
theorem Rz.same {r : Rs} {H H1 : Hp} {Q : VK} {E : XK} (h : Rz K CN CG CZ r H Q E) (s : Same H H1) : Rz K CN CG CZ r H1 Q E := fun H' s' => h H' (s.trans s')
theorem Rz.sub {r : Rs} {f : Int → Rs} {H : Hp} {Q Q' : VK} {E : XK} (h : Rz K CN CG CZ (r.then f) H Q E) (k : ∀ i H', r = .ok i → Same H H' → Rz K CN CG CZ (f i) H' Q E → Q' (.int i) H') : Rz K CN CG CZ r H Q' E := fun H' s => by
  refine ⟨fun i e => k i H' e s ?_, fun e he u hu => ?_⟩
  · subst e
    exact h.same s
  · subst he
    exact (h H' s).2 e rfl u hu
theorem Rz.ok {i : Int} {H : Hp} {Q : VK} {E : XK} (h : Rz K CN CG CZ (.ok i) H Q E) : Q (.int i) H := (h H (Same.refl H)).1 i rfl
theorem Rz.tru {b : Bool} {H : Hp} {Q : VK} {E : XK} (h : Rz K CN CG CZ (Qb.tru b) H Q E) : Q (.int (if b then 1 else 0)) H := h.ok
end
/-- two numbers joined, not looked at yet -/
def jr (t : Sm) (s : Str) (a b : Int) : Rs := if s = "*" then .ok (a * b) else if s = "+" then .ok (a + b) else if s = "-" then .ok (a - b) else
  if s = "/" ∨ s = "^" then (if b = 0 then .er (.zero t) else .ok (if s = "/" then cutQ a b else a - b * cutQ a b)) else .ok (if cmpB s a b then 1 else 0)
theorem jn_jr (t : Sm) (s : Str) (a b : Int) : jn t s a b = (jr t s a b).then (chk t) := by
  unfold jn jr
  split
  · rfl
  split
  · rfl
  split
  · rfl
  split
  · split <;> rfl
  · have key : ∀ c : Bool, Rs.ok (if c = true then 1 else 0) = chk t (if c = true then 1 else 0) := fun c => by
      cases c
      · rfl
      · rfl
    exact key _
theorem cutQ_lt (a b : Int) : (cutQ a b).natAbs ≤ a.natAbs := by
  unfold cutQ
  have h := Nat.div_le_self a.natAbs b.natAbs
  split
  · rw [Int.natAbs_natCast]; exact h
  · rw [Int.natAbs_neg, Int.natAbs_natCast]; exact h
def spCd (K : Frag) (CN CG CZ : Addr) : Sp := fun vs H Q E => ∃ (i : Int) (v : V) (t : Sm), vs = [.int i, v] ∧ Dp K H v t.d ∧ t.ht ≤ 14 ∧ Rz K CN CG CZ (chk t i) H Q E
def spJn (K : Frag) (CN CG CZ : Addr) : Sp := fun vs H Q E => ∃ (v : V) (s : Str) (a b : Sm) (i j : Int), vs = [v, .int i, .int j] ∧ Dp K H v (Sm.two s a b).d ∧ (Sm.two s a b).ht ≤ 14 ∧ i.natAbs < 2 ^ 133 ∧ j.natAbs < 2 ^ 133 ∧ Rz K CN CG CZ (jr (.two s a b) s i j) H Q E
def spCk (K : Frag) (CT : Addr) : Sp := fun vs H Q E => ∃ (v : V) (t : Sm), vs = [v] ∧ Dp K H v t.d ∧ t.ht ≤ 14 ∧ t.fine ∧ (t.ok = true → ∀ H', Same H H' → Q .non H') ∧ (t.ok = false → ∀ H' u, Same H H' → Dp K H' u t.d → RaisesV E CT u H')
/-- names that are short -/
def Sm.wok : Sm → Prop
  | .num _ => True
  | .of w => okW w
  | .one _ a => a.wok
  | .two _ a b => a.wok ∧ b.wok
  | .three _ a b c => a.wok ∧ b.wok ∧ c.wok
def spNo (K : Frag) (CN CG CZ : Addr) : Nat → Sp
  | 0 => fun _ _ _ _ => False
  | n + 1 => fun vs H Q E => ∃ (v : V) (t : Sm) (b g : Addr) (Ee : Ev), vs = [v, .ref b, .ref g] ∧ Dp K H v t.d ∧ t.ht ≤ n ∧ n ≤ 14 ∧ t.nice ∧ t.wok ∧ EvOk K H b g Ee ∧ Rz K CN CG CZ (vl Ee t) H Q E
def spWo (K : Frag) (CN CG CZ CT : Addr) : Sp := fun vs H Q E => ∃ (v : V) (t : Sm) (b g : Addr) (Ee : Ev), vs = [v, .ref b, .ref g] ∧ Dp K H v t.d ∧ t.ht ≤ 14 ∧ t.fine ∧ EvOk K H b g Ee ∧ ((t.ok = true ∧ t.wok ∧ Rz K CN CG CZ (vl Ee t) H Q E) ∨ (t.ok = false ∧ ∀ H' u, Same H H' → Dp K H' u t.d → RaisesV E CT u H'))
section
variable {P : Program} {w : World} {K : Frag} {mg : Str → Option Value} {base : Heap}
abbrev sCd : Stmt := top 32
abbrev nCd : List Str := ["number", "tree"]
theorem scCd : FnScope nCd ["number", "tree"] (defScope sCd) := ⟨rfl, rfl, rfl, by decide +kernel, rfl, by decide +kernel, by decide +kernel⟩
theorem ok_Cd {f : Addr} {fd : FuncData} {fI CN CG CZ : Addr} (EGi : EG K fI) {mG : List Value} (TG : EC K mg fI "TooGreat" CG mG) {dI : FuncData} (GIn : FnOk P w K mg base CX0 1 fI dI ["self", "value"] (spInit K)) (bIn : Binds K dI ["self", "value"] []) (F : Fun K "checked" "checked" sCd f fd) (B : Blt mg) (W : Wrt K w mg)
    {fFr : Addr} {dFr : FuncData} (gFr : mg "fresh" = some (.ref fFr)) (kFr : PySem.W.keepIn K (.ref fFr) = true) (bFr : Binds K dFr ["thing"] []) (GFr : FnOk P w K mg base CX0 17 fFr dFr ["thing"] (spOw K 16)) :
    FnOk P w K mg base (L2.CX P w) 18 f fd ["number", "tree"] (spCd K CN CG CZ) := by
  refine F.okX scCd (fun vs H Q E h => ?_) (fun cdv A outer s H vs Q E hr h => ?_)
  · obtain ⟨i, v, t, rfl, _⟩ := h
    rfl
  · refine ⟨_, (pss_cons (ps_if (pt_cmpR op_ge (pe_callB call_abs (by rfl) B.abs (by decide +kernel) (pa_cons (pv 0) pa_nil)) (glob_int (by rfl) W.tg) (nomark _)) (pss_one (ps_raise rfl (takes_of rfl rfl rfl rfl) (pmk_oex TG.oex TG.iC EGi.tI GIn (hr.mono (by decide)) bIn .nil pass0 (by rfl) TG.gC (by exact (pa_cons (pe_call GFr hr rfl gFr kFr bFr .nil pass0 (pa_cons (pv 1) pa_nil)) pa_nil))))) pss_nil)
        (pss_one (ps_ret (pv 0)))), ?_⟩
    obtain ⟨i, v, t, rfl, hd, hh, k⟩ := h
    refine ⟨_, rfl, _, rfl, _, _, rfl, rfl, _, rfl, ?_⟩
    rw [abs_nat]
    unfold chk at k
    refine if_by (fun e => ?_) (fun e => ?_)
    · have c : top40 ≤ (i.natAbs : Int) := of_decide_eq_true e
      rw [if_pos c] at k
      refine ⟨_, rfl, v, t.d, rfl, hd, sm_pl (n := 14) hh, fun H2 u S s2 ow nS => ?_⟩
      exact init_end TG.oex TG.no fun d nd' => (k H2 s2).2 _ rfl u (ow_dp ow) d nd'
    · have c : ¬ top40 ≤ (i.natAbs : Int) := of_decide_eq_false e
      rw [if_neg c] at k
      exact ⟨_, rfl, k.ok⟩
abbrev sJn : Stmt := top 33
abbrev nJn : List Str := ["tree", "one", "other"]
theorem scJn : FnScope nJn ["tree", "one", "other"] (defScope sJn) := ⟨rfl, rfl, rfl, by decide +kernel, rfl, by decide +kernel, by decide +kernel⟩
theorem or_case {c e x : Str} {t : TS} {rest : List (List Nat × PatR × TS)} {D : Ends} {σ : L2.St} {H : Hp} (a : x = c ∨ x = e → t D σ H) (b : ¬(x = c ∨ x = e) → tCases rest (.str x) D σ H) : tCases (([], rOr [rLit c, rLit e], t) :: rest) (.str x) D σ H := by
  refine ⟨x, rfl, ?_⟩
  by_cases h : x = c
  · rw [if_pos h]
    exact a (.inl h)
  · rw [if_neg h]
    refine ⟨x, rfl, ?_⟩
    by_cases h2 : x = e
    · rw [if_pos h2]
      exact a (.inr h2)
    · rw [if_neg h2]
      exact b fun z => z.elim h h2
theorem ok_Jn {f : Addr} {fd : FuncData} {fI CN CG CZ : Addr} (EGi : EG K fI) {mZ : List Value} (TZ : EC K mg fI "DividedByZero" CZ mZ) {dI : FuncData} (GIn : FnOk P w K mg base CX0 1 fI dI ["self", "value"] (spInit K)) (bIn : Binds K dI ["self", "value"] []) (F : Fun K "joined_numbers" "joined_numbers" sJn f fd) (B : Blt mg)
    {fFr : Addr} {dFr : FuncData} (gFr : mg "fresh" = some (.ref fFr)) (kFr : PySem.W.keepIn K (.ref fFr) = true) (bFr : Binds K dFr ["thing"] []) (GFr : FnOk P w K mg base CX0 17 fFr dFr ["thing"] (spOw K 16)) (hCq : Has P w K mg base 1 "cut_quotient" ["one", "other"] (spCq)) (hCm : Has P w K mg base 1 "compared" ["sign", "one", "other"] (spCm)) :
    FnOk P w K mg base (L2.CX P w) 18 f fd ["tree", "one", "other"] (spJn K CN CG CZ) := by
  obtain ⟨fCq, dCq, gCq, kCq, bCq, GCq⟩ := hCq
  obtain ⟨fCm, dCm, gCm, kCm, bCm, GCm⟩ := hCm
  refine F.okX scJn (fun vs H Q E h => ?_) (fun cdv A outer s H vs Q E hr h => ?_)
  · obtain ⟨v, sg, a, b, i, j, rfl, _⟩ := h
    rfl
  · refine ⟨_, (pss_cons (ps_match (pe_ix ix_tup (pv 0) pe_int (fun _ _ => rfl))
        (pcs_cons (is := []) scJn.nd pp_lit .nil
          (pss_one (ps_ret (pe_op op_mulW (pv 1) (pv 2))))
        (pcs_cons (is := []) scJn.nd pp_lit .nil
          (pss_one (ps_ret (pe_op op_add (pv 1) (pv 2))))
        (pcs_cons (is := []) scJn.nd pp_lit .nil
          (pss_one (ps_ret (pe_op op_sub (pv 1) (pv 2))))
        (pcs_cons (is := []) scJn.nd (pp_or (pf_cons pp_lit (pf_cons pp_lit pf_nil))) .nil
          (pss_cons (ps_if (pt_cmpR op_eq (pv 2) pe_int (nomark _)) (pss_one (ps_raise rfl (takes_of rfl rfl rfl rfl) (pmk_oex TZ.oex TZ.iC EGi.tI GIn (hr.mono (by decide)) bIn .nil pass0 (by rfl) TZ.gC (by exact (pa_cons (pe_call GFr hr rfl gFr kFr bFr .nil pass0 (pa_cons (pv 0) pa_nil)) pa_nil))))) pss_nil)
          (pss_one (ps_ret (pe_ifExp (pt_cmpR op_eq (pe_ix ix_tup (pv 0) pe_int (fun _ _ => rfl)) pe_str (nomark _)) (pe_call GCq (hr.mono (by decide)) rfl gCq kCq bCq .nil pass0 (pa_cons (pv 1) (pa_cons (pv 2) pa_nil))) (pe_op op_sub (pv 1) (pe_op op_mulW (pv 2) (pe_call GCq (hr.mono (by decide)) rfl gCq kCq bCq .nil pass0 (pa_cons (pv 1) (pa_cons (pv 2) pa_nil))))))))) pcs_nil)))))
        (pss_one (ps_ret (pe_ifExp (pt_val (pe_call GCm (hr.mono (by decide)) rfl gCm kCm bCm .nil pass0 (pa_cons (pe_ix ix_tup (pv 0) pe_int (fun _ _ => rfl)) (pa_cons (pv 1) (pa_cons (pv 2) pa_nil))))) pe_int pe_int)))), ?_⟩
    obtain ⟨v, sg, a, b, i, j, rfl, hd, hh, hi, hj, k⟩ := h
    obtain ⟨p, x, y, rfl, hq, hx, hy⟩ := pc_three hd
    have e0 : ∀ c : Str, decide (V.int j = V.int 0) = decide (j = 0) := fun _ => decide_eq_decide.mpr ⟨V.int.inj, congrArg V.int⟩
    unfold jr at k
    refine ⟨_, rfl, p, _, 0, _, rfl, rfl, hq, at0, lit_case (fun e => ?_) fun n1 => lit_case (fun e => ?_) fun n2 => lit_case (fun e => ?_) fun n3 => or_case (fun e => ?_) fun n4 => ?_⟩
    · rw [if_pos e] at k
      exact ⟨_, rfl, _, rfl, _, _, rfl, rfl, wide_mul (a := 140) (b := 140) (Nat.lt_trans hi (by decide)) (Nat.lt_trans hj (by decide)) (by decide) (by decide) (by decide), k.ok⟩
    · rw [if_neg n1, if_pos e] at k
      exact ⟨_, rfl, _, rfl, _, _, rfl, rfl, k.ok⟩
    · rw [if_neg n1, if_neg n2, if_pos e] at k
      exact ⟨_, rfl, _, rfl, _, _, rfl, rfl, k.ok⟩
    · rw [if_neg n1, if_neg n2, if_neg n3, if_pos e] at k
      refine ⟨_, rfl, rfl, _, rfl, ?_⟩
      rw [e0 ""]
      refine if_by (fun e2 => ?_) (fun e2 => ?_)
      · have z : j = 0 := of_decide_eq_true e2
        rw [if_pos z] at k
        refine ⟨_, rfl, _, (Sm.two sg a b).d, rfl, hd, sm_pl (n := 14) hh, fun H2 u S s2 ow nS => ?_⟩
        exact init_end TZ.oex TZ.no fun d nd' => (k H2 s2).2 _ rfl u (ow_dp ow) d nd'
      · have z : j ≠ 0 := of_decide_eq_false e2
        rw [if_neg z] at k
        have kk := k.ok
        refine ⟨_, rfl, p, _, 0, _, rfl, rfl, hq, at0, rfl, _, rfl, ?_⟩
        refine if_by (fun e3 => ?_) (fun e3 => ?_)
        · rw [if_pos (V.str.inj (of_decide_eq_true e3))] at kk
          exact ⟨_, rfl, _, rfl, i, j, rfl, z, hi, hj, kk⟩
        · rw [if_neg fun y => of_decide_eq_false e3 (congrArg V.str y)] at kk
          refine ⟨_, rfl, _, rfl, _, rfl, _, rfl, i, j, rfl, z, hi, hj, _, _, rfl, rfl, ?_, _, _, rfl, rfl, kk⟩
          exact wide_mul (a := 140) (b := 140) (Nat.lt_trans hj (by decide)) (Nat.lt_of_le_of_lt (cutQ_lt i j) (Nat.lt_trans hi (by decide))) (by decide) (by decide) (by decide)
    · rw [if_neg n1, if_neg n2, if_neg n3, if_neg n4] at k
      have kk := k.ok
      refine ⟨_, rfl, p, _, 0, _, rfl, rfl, hq, at0, _, rfl, _, rfl, sg, i, j, rfl, _, rfl, ?_⟩
      refine if_by (fun e => ?_) (fun e => ?_)
      · rw [e] at kk; exact kk
      · rw [e] at kk; exact kk
abbrev sCk : Stmt := top 30
abbrev nCk : List Str := ["tree"]
theorem scCk : FnScope nCk ["tree"] (defScope sCk) := ⟨rfl, rfl, rfl, by decide +kernel, rfl, by decide +kernel, by decide +kernel⟩
theorem ok_Ck {f : Addr} {fd : FuncData} {fI : Addr} (EGi : EG K fI) {CT : Addr} {mT : List Value} (TT : EC K mg fI "InvalidTree" CT mT) {dI : FuncData} (GIn : FnOk P w K mg base CX0 1 fI dI ["self", "value"] (spInit K)) (bIn : Binds K dI ["self", "value"] []) (F : Fun K "check_sum" "check_sum" sCk f fd) (B : Blt mg)
    {fIs : Addr} {dIs : FuncData} (gIs : mg "is_sum" = some (.ref fIs)) (kIs : PySem.W.keepIn K (.ref fIs) = true) (bIs : Binds K dIs ["tree"] []) (GIs : FnOk P w K mg base CX0 18 fIs dIs ["tree"] (spIs K 15))
    {fFr : Addr} {dFr : FuncData} (gFr : mg "fresh" = some (.ref fFr)) (kFr : PySem.W.keepIn K (.ref fFr) = true) (bFr : Binds K dFr ["thing"] []) (GFr : FnOk P w K mg base CX0 17 fFr dFr ["thing"] (spOw K 16)) :
    FnOk P w K mg base (L2.CX P w) 19 f fd ["tree"] (spCk K CT) := by
  refine F.okX scCk (fun vs H Q E h => ?_) (fun cdv A outer s H vs Q E hr h => ?_)
  · obtain ⟨v, t, rfl, _⟩ := h
    rfl
  · refine ⟨_, (pss_one (ps_if (pt_not (pt_val (pe_call GIs hr rfl gIs kIs bIs .nil pass0 (pa_cons (pv 0) pa_nil)))) (pss_one (ps_raise rfl (takes_of rfl rfl rfl rfl) (pmk_oex TT.oex TT.iC EGi.tI GIn (hr.mono (by decide)) bIn .nil pass0 (by rfl) TT.gC (by exact (pa_cons (pe_call GFr (hr.mono (by decide)) rfl gFr kFr bFr .nil pass0 (pa_cons (pv 0) pa_nil)) pa_nil))))) pss_nil)), ?_⟩
    obtain ⟨v, t, rfl, hd, hh, hf, k1, k0⟩ := h
    refine ⟨_, rfl, v, t, rfl, hd, hh, hf, fun H1 s1 => ⟨_, rfl, ?_⟩⟩
    cases e : t.ok with
    | true => exact if_no rfl (k1 e H1 s1)
    | false =>
      refine if_yes rfl ⟨_, rfl, v, t.d, rfl, dp_same s1 hd, sm_pl (n := 14) hh, fun H2 u S s2 ow nS => ?_⟩
      exact init_end TT.oex TT.no fun d nd' => k0 e H2 u (s1.trans s2) (ow_dp ow) d nd'
end
end Qb
end PySem
namespace PySem
namespace Qb
open PySem.W PySem.Calls PyProof.Rows L2
/-! # number_of, worked_out -/
theorem i_ne (i : Int) : (!decide (V.int i = V.int 0)) = decide (i ≠ 0) := by
  by_cases c : i = 0
  · subst c; rfl
  · rw [decide_eq_false (fun z => c (V.int.inj z)), decide_eq_true c]; rfl
theorem i_eq (i : Int) : decide (V.int i = V.int 0) = decide (i = 0) := decide_eq_decide.mpr ⟨V.int.inj, congrArg V.int⟩
section
variable {P : Program} {w : World} {K : Frag} {mg : Str → Option Value} {base : Heap}
abbrev sNo : Stmt := top 31
abbrev nNo : List Str := ["tree", "names", "arguments", "number", "name", "part", "test", "one", "other", "first"]
theorem scNo : FnScope nNo ["tree", "names", "arguments"] (defScope sNo) := ⟨rfl, rfl, rfl, by decide +kernel, rfl, by decide +kernel, by decide +kernel⟩
theorem ok_No {f : Addr} {fd : FuncData} {CN CG CZ : Addr} (F : Fun K "number_of" "number_of" sNo f fd) (gNo : mg "number_of" = some (.ref f)) (bNo : Binds K fd ["tree", "names", "arguments"] []) (B : Blt mg)
    {fCd fJn : Addr} {dCd dJn : FuncData} (gCd : mg "checked" = some (.ref fCd)) (kCd : PySem.W.keepIn K (.ref fCd) = true) (bCd : Binds K dCd ["number", "tree"] []) (GCd : FnOk P w K mg base (L2.CX P w) 18 fCd dCd ["number", "tree"] (spCd K CN CG CZ))
    (gJn : mg "joined_numbers" = some (.ref fJn)) (kJn : PySem.W.keepIn K (.ref fJn) = true) (bJn : Binds K dJn ["tree", "one", "other"] []) (GJn : FnOk P w K mg base (L2.CX P w) 18 fJn dJn ["tree", "one", "other"] (spJn K CN CG CZ))
    (hNt : HasX P w K mg base 3 "number_told" ["text"] (spNt CN)) (hTo : Has P w K mg base 3 "text_of" ["name", "names", "arguments"] (spTo K)) :
    ∀ n, FnOk P w K mg base (L2.CX P w) (n + 19) f fd ["tree", "names", "arguments"] (spNo K CN CG CZ n)
  | 0 => F.okX scNo (fun vs H Q E h => h.elim) (fun cdv A outer s H vs Q E hr h => h.elim)
  | n + 1 => by
    have GNo := ok_No F gNo bNo B gCd kCd bCd GCd gJn kJn bJn GJn hNt hTo n
    have kNo := F.kp
    obtain ⟨fNt, dNt, gNt, kNt, bNt, GNt⟩ := hNt
    obtain ⟨fTo, dTo, gTo, kTo, bTo, GTo⟩ := hTo
    refine F.okX scNo (fun vs H Q E h => ?_) (fun cdv A outer s H vs Q E hr h => ?_)
    · obtain ⟨v, t, b, g, Ee, rfl, _⟩ := h
      rfl
    · refine ⟨_, (pss_one (ps_match (pv 0)
        (pcs_cons (is := [3]) scNo.nd (pp_seq rfl (pps_cons pp_lit (pps_cons pp_cap pps_nil))) (.cons ⟨rfl, .inl rfl, .inr rfl⟩ .nil)
          (pss_one (ps_ret (pe_callS GCd (hr.mono (by omega)) rfl gCd kCd bCd (fun σ => passAt (takes_of rfl rfl rfl rfl) σ) (by exact (pa_cons (pv 3) (pa_cons (pv 0) pa_nil))))))
        (pcs_cons (is := [4]) scNo.nd (pp_seq rfl (pps_cons pp_lit (pps_cons pp_cap pps_nil))) (.cons ⟨rfl, .inl rfl, .inr rfl⟩ .nil)
          (pss_one (ps_ret (pe_callS GNt (hr.mono (by omega)) rfl gNt kNt bNt (fun σ => passAt (takes_of rfl rfl rfl rfl) σ) (by exact (pa_cons (pe_call GTo (hr.mono (by omega)) rfl gTo kTo bTo .nil pass0 (pa_cons (pv 4) (pa_cons (pv 1) (pa_cons (pv 2) pa_nil)))) pa_nil)))))
        (pcs_cons (is := [5]) scNo.nd (pp_seq rfl (pps_cons pp_lit (pps_cons pp_cap pps_nil))) (.cons ⟨rfl, .inl rfl, .inr rfl⟩ .nil)
          (pss_one (ps_ret (pe_un un_neg (pe_callS GNo (hr.mono (by omega)) rfl gNo kNo bNo (fun σ => passAt (takes_of rfl rfl rfl rfl) σ) (by exact (pa_cons (pv 5) (pa_cons (pv 1) (pa_cons (pv 2) pa_nil))))))))
        (pcs_cons (is := [5]) scNo.nd (pp_seq rfl (pps_cons pp_lit (pps_cons pp_cap pps_nil))) (.cons ⟨rfl, .inl rfl, .inr rfl⟩ .nil)
          (pss_one (ps_ret (pe_ifExp (pt_cmpR op_eq (pe_callS GNo (hr.mono (by omega)) rfl gNo kNo bNo (fun σ => passAt (takes_of rfl rfl rfl rfl) σ) (by exact (pa_cons (pv 5) (pa_cons (pv 1) (pa_cons (pv 2) pa_nil))))) pe_int (nomark _)) pe_int pe_int)))
        (pcs_cons (is := [6, 7, 8]) scNo.nd (pp_seq rfl (pps_cons pp_lit (pps_cons pp_cap (pps_cons pp_cap (pps_cons pp_cap pps_nil))))) (.cons ⟨rfl, .inl rfl, .inr rfl⟩ (.cons ⟨rfl, .inl rfl, .inr rfl⟩ (.cons ⟨rfl, .inl rfl, .inr rfl⟩ .nil)))
          (pss_cons (ps_if (pt_cmpR op_ne (pe_callS GNo (hr.mono (by omega)) rfl gNo kNo bNo (fun σ => passAt (takes_of rfl rfl rfl rfl) σ) (by exact (pa_cons (pv 6) (pa_cons (pv 1) (pa_cons (pv 2) pa_nil))))) pe_int (nomark _)) (pss_one (ps_ret (pe_callS GNo (hr.mono (by omega)) rfl gNo kNo bNo (fun σ => passAt (takes_of rfl rfl rfl rfl) σ) (by exact (pa_cons (pv 7) (pa_cons (pv 1) (pa_cons (pv 2) pa_nil))))))) pss_nil)
          (pss_one (ps_ret (pe_callS GNo (hr.mono (by omega)) rfl gNo kNo bNo (fun σ => passAt (takes_of rfl rfl rfl rfl) σ) (by exact (pa_cons (pv 8) (pa_cons (pv 1) (pa_cons (pv 2) pa_nil))))))))
        (pcs_cons (is := [7, 8]) scNo.nd (pp_seq rfl (pps_cons pp_lit (pps_cons pp_cap (pps_cons pp_cap pps_nil)))) (.cons ⟨rfl, .inl rfl, .inr rfl⟩ (.cons ⟨rfl, .inl rfl, .inr rfl⟩ .nil))
          (pss_cons (ps_if (pt_cmpR op_eq (pe_callS GNo (hr.mono (by omega)) rfl gNo kNo bNo (fun σ => passAt (takes_of rfl rfl rfl rfl) σ) (by exact (pa_cons (pv 7) (pa_cons (pv 1) (pa_cons (pv 2) pa_nil))))) pe_int (nomark _)) (pss_one (ps_ret pe_int)) pss_nil)
          (pss_one (ps_ret (pe_ifExp (pt_cmpR op_ne (pe_callS GNo (hr.mono (by omega)) rfl gNo kNo bNo (fun σ => passAt (takes_of rfl rfl rfl rfl) σ) (by exact (pa_cons (pv 8) (pa_cons (pv 1) (pa_cons (pv 2) pa_nil))))) pe_int (nomark _)) pe_int pe_int))))
        (pcs_cons (is := [7, 8]) scNo.nd (pp_seq rfl (pps_cons pp_lit (pps_cons pp_cap (pps_cons pp_cap pps_nil)))) (.cons ⟨rfl, .inl rfl, .inr rfl⟩ (.cons ⟨rfl, .inl rfl, .inr rfl⟩ .nil))
          (pss_cons (ps_if (pt_cmpR op_ne (pe_callS GNo (hr.mono (by omega)) rfl gNo kNo bNo (fun σ => passAt (takes_of rfl rfl rfl rfl) σ) (by exact (pa_cons (pv 7) (pa_cons (pv 1) (pa_cons (pv 2) pa_nil))))) pe_int (nomark _)) (pss_one (ps_ret pe_int)) pss_nil)
          (pss_one (ps_ret (pe_ifExp (pt_cmpR op_ne (pe_callS GNo (hr.mono (by omega)) rfl gNo kNo bNo (fun σ => passAt (takes_of rfl rfl rfl rfl) σ) (by exact (pa_cons (pv 8) (pa_cons (pv 1) (pa_cons (pv 2) pa_nil))))) pe_int (nomark _)) pe_int pe_int))))
        (pcs_cons (is := [7, 8]) scNo.nd (pp_seq rfl (pps_cons pp_any (pps_cons pp_cap (pps_cons pp_cap pps_nil)))) (.cons ⟨rfl, .inl rfl, .inr rfl⟩ (.cons ⟨rfl, .inl rfl, .inr rfl⟩ .nil))
          (pss_cons (ps_set (i := 9) scNo.nd rfl (.inl rfl) (pe_callS GNo (hr.mono (by omega)) rfl gNo kNo bNo (fun σ => passAt (takes_of rfl rfl rfl rfl) σ) (by exact (pa_cons (pv 7) (pa_cons (pv 1) (pa_cons (pv 2) pa_nil))))))
          (pss_one (ps_ret (pe_callS GCd (hr.mono (by omega)) rfl gCd kCd bCd (fun σ => passAt (takes_of rfl rfl rfl rfl) σ) (by exact (pa_cons (pe_callS GJn (hr.mono (by omega)) rfl gJn kJn bJn (fun σ => passAt (takes_of rfl rfl rfl rfl) σ) (by exact (pa_cons (pv 0) (pa_cons (pv 9) (pa_cons (pe_callS GNo (hr.mono (by omega)) rfl gNo kNo bNo (fun σ => passAt (takes_of rfl rfl rfl rfl) σ) (by exact (pa_cons (pv 8) (pa_cons (pv 1) (pa_cons (pv 2) pa_nil))))) pa_nil))))) (pa_cons (pv 0) pa_nil))))))) pcs_nil)))))))))), ?_⟩
      obtain ⟨v, t, b, g, Ee, rfl, hd, hh, hn, nice, wok, ev, k⟩ := h
      have kid : ∀ {u : Sm} {x : V} {H1 : Hp} {Q' : VK} {E' : XK}, Dp K H1 x u.d → u.ht + 1 ≤ n → u.nice → u.wok → EvOk K H1 b g Ee → Rz K CN CG CZ (vl Ee u) H1 Q' E' → spNo K CN CG CZ n ([x, .ref b, .ref g] ++ []) H1 Q' E' := by
        intro u x H1 Q' E' a1 a2 a3 a4 a5 a6
        obtain ⟨n', rfl⟩ : ∃ n', n = n' + 1 := ⟨n - 1, by omega⟩
        exact ⟨x, u, b, g, Ee, rfl, a1, by omega, by omega, a3, a4, a5, a6⟩
      cases t with
      | num i =>
        obtain ⟨a, rfl, hq⟩ := dp_num hd
        exact ⟨_, rfl, case_hit hq hit_lit ⟨_, rfl, _, rfl, i, .ref a, .num i, rfl, hd, Nat.zero_le _, k⟩⟩
      | of x =>
        obtain ⟨a, rfl, hq⟩ := dp_of hd
        refine ⟨_, rfl, case_miss hq ml (case_hit hq hit_lit ⟨_, rfl, _, rfl, _, rfl, x, b, g, Ee, rfl, ev, wok, fun H1 s1 => ?_⟩)⟩
        have tl := txt_len ev x
        have k' : Rz K CN CG CZ (match numO (txt Ee x) with
          | some i => Rs.ok i
          | none => .er (.noI (txt Ee x))) H Q E := k
        refine ⟨txt Ee x, rfl, by omega, fun i ei H2 s2 => ?_, fun ei H2 s2 => ?_⟩
        · rw [ei] at k'
          exact (k'.same (s1.trans s2)).ok
        · rw [ei] at k'
          exact (k' H2 (s1.trans s2)).2 _ rfl _ (.str _)
      | one s' a1 =>
        obtain ⟨p, x, rfl, hq, hx⟩ := pc_two hd
        have ha : a1.ht + 1 ≤ n := by
          have : 1 + a1.ht ≤ n := hh
          omega
        rcases nice.1 with rfl | rfl
        · refine ⟨_, rfl, case_miss hq ml (case_miss hq ml (case_hit hq hit_lit ⟨_, rfl, _, rfl, _, rfl, kid hx ha nice.2 wok ev (k.sub fun i H1 ei s1 k1 => ?_)⟩))⟩
          exact ⟨_, rfl, k1.ok⟩
        · refine ⟨_, rfl, case_miss hq ml (case_miss hq ml (case_miss hq ml (case_hit hq hit_lit ⟨_, rfl, _, rfl, _, rfl, kid hx ha nice.2 wok ev (k.sub fun i H1 ei s1 k1 => ?_)⟩)))⟩
          refine ⟨rfl, _, rfl, ?_⟩
          rw [i_eq]
          have z := Rz.tru (b := decide (i = 0)) k1
          refine if_by (fun e => ?_) (fun e => ?_)
          · rw [e] at z; exact z
          · rw [e] at z; exact z
      | three s' a1 b1 c1 =>
        obtain ⟨p, x, y, z, rfl, hq, hx, hy, hz⟩ := pc_four hd
        have habc : 1 + max a1.ht (max b1.ht c1.ht) ≤ n := hh
        obtain ⟨rfl, na, nb, nc⟩ := nice
        obtain ⟨wa, wb, wc⟩ := wok
        refine ⟨_, rfl, len_miss hq (by simp) (len_miss hq (by simp) (len_miss hq (by simp) (len_miss hq (by simp) (case_hit hq hit_lit ⟨_, rfl, _, rfl, _, rfl, kid hx (by omega) na wa ev (k.sub fun i H1 ei s1 k1 => ?_)⟩))))⟩
        refine ⟨rfl, _, rfl, ?_⟩
        rw [i_ne]
        refine if_by (fun e => ?_) (fun e => ?_)
        · rw [if_pos (of_decide_eq_true e)] at k1
          exact ⟨_, rfl, _, rfl, _, rfl, kid (dp_same s1 hy) (by omega) nb wb (ev.same s1) k1⟩
        · rw [if_neg (of_decide_eq_false e)] at k1
          exact ⟨_, rfl, _, rfl, _, rfl, kid (dp_same s1 hz) (by omega) nc wc (ev.same s1) k1⟩
      | two s' a1 b1 =>
        obtain ⟨p, x, y, rfl, hq, hx, hy⟩ := pc_three hd
        have hab : 1 + max a1.ht b1.ht ≤ n := hh
        obtain ⟨op, na, nb⟩ := nice
        obtain ⟨wa, wb⟩ := wok
        refine ⟨_, rfl, len_miss hq (by simp) (len_miss hq (by simp) (len_miss hq (by simp) (len_miss hq (by simp) (len_miss hq (by simp) ?_))))⟩
        by_cases c1 : s' = "&&"
        · subst c1
          refine case_hit hq hit_lit ⟨_, rfl, _, rfl, _, rfl, kid hx (by omega) na wa ev (k.sub fun i H1 ei s1 k1 => ?_)⟩
          refine ⟨rfl, _, rfl, ?_⟩
          rw [i_eq]
          refine if_by (fun e => ?_) (fun e => ?_)
          · rw [if_pos ⟨rfl, of_decide_eq_true e⟩] at k1
            exact k1.ok
          · rw [if_neg fun z => of_decide_eq_false e z.2, if_neg fun z => absurd z.1 (by decide +kernel)] at k1
            refine ⟨_, rfl, _, rfl, _, rfl, kid (dp_same s1 hy) (by omega) nb wb (ev.same s1) (k1.sub fun j H2 ej s2 k2 => ?_)⟩
            rw [if_pos (.inl rfl)] at k2
            refine ⟨rfl, _, rfl, ?_⟩
            rw [i_ne]
            have z := Rz.tru (b := decide (j ≠ 0)) k2
            refine if_by (fun e => ?_) (fun e => ?_)
            · rw [e] at z; exact z
            · rw [e] at z; exact z
        refine case_miss hq (.inl (miss_lit c1)) ?_
        by_cases c2 : s' = "||"
        · subst c2
          refine case_hit hq hit_lit ⟨_, rfl, _, rfl, _, rfl, kid hx (by omega) na wa ev (k.sub fun i H1 ei s1 k1 => ?_)⟩
          rw [if_neg fun z => c1 z.1] at k1
          refine ⟨rfl, _, rfl, ?_⟩
          rw [i_ne]
          refine if_by (fun e => ?_) (fun e => ?_)
          · rw [if_pos ⟨rfl, of_decide_eq_true e⟩] at k1
            exact k1.ok
          · rw [if_neg fun z => of_decide_eq_false e z.2] at k1
            refine ⟨_, rfl, _, rfl, _, rfl, kid (dp_same s1 hy) (by omega) nb wb (ev.same s1) (k1.sub fun j H2 ej s2 k2 => ?_)⟩
            rw [if_pos (.inr rfl)] at k2
            refine ⟨rfl, _, rfl, ?_⟩
            rw [i_ne]
            have z := Rz.tru (b := decide (j ≠ 0)) k2
            refine if_by (fun e => ?_) (fun e => ?_)
            · rw [e] at z; exact z
            · rw [e] at z; exact z
        refine case_miss hq (.inl (miss_lit c2)) ?_
        refine ⟨_, _, rfl, hq, fun ne => absurd rfl ne, fun _ => ?_⟩
        refine ⟨_, rfl, _, rfl, _, rfl, kid hx (by omega) na wa ev (k.sub fun i H1 ei s1 k1 => ?_)⟩
        rw [if_neg fun z => c1 z.1, if_neg fun z => c2 z.1] at k1
        have fi := vl_fin Ee a1
        rw [ei] at fi
        refine ⟨_, rfl, _, rfl, _, rfl, _, rfl, _, rfl, kid (dp_same s1 hy) (by omega) nb wb (ev.same s1) (k1.sub fun j H2 ej s2 k2 => ?_)⟩
        rw [if_neg (fun z => z.elim c1 c2), jn_jr] at k2
        have fj := vl_fin Ee b1
        rw [ej] at fj
        refine ⟨_, s', a1, b1, i, j, rfl, dp_same (s1.trans s2) hd, by omega, fin_log fi, fin_log fj, k2.sub fun q H3 eq s3 k3 => ?_⟩
        exact ⟨_, rfl, q, _, .two s' a1 b1, rfl, dp_same ((s1.trans s2).trans s3) hd, by omega, k3⟩
abbrev sWo : Stmt := top 26
abbrev nWo : List Str := ["tree", "names", "arguments"]
theorem scWo : FnScope nWo ["tree", "names", "arguments"] (defScope sWo) := ⟨rfl, rfl, rfl, by decide +kernel, rfl, by decide +kernel, by decide +kernel⟩
theorem ok_Wo {f : Addr} {fd : FuncData} {CN CG CZ CT : Addr} (F : Fun K "worked_out" "worked_out" sWo f fd) (B : Blt mg)
    {fCk fNo : Addr} {dCk dNo : FuncData} (gCk : mg "check_sum" = some (.ref fCk)) (kCk : PySem.W.keepIn K (.ref fCk) = true) (bCk : Binds K dCk ["tree"] []) (GCk : FnOk P w K mg base (L2.CX P w) 19 fCk dCk ["tree"] (spCk K CT))
    (gNo : mg "number_of" = some (.ref fNo)) (kNo : PySem.W.keepIn K (.ref fNo) = true) (bNo : Binds K dNo ["tree", "names", "arguments"] []) (GNo : FnOk P w K mg base (L2.CX P w) 34 fNo dNo ["tree", "names", "arguments"] (spNo K CN CG CZ 15)) :
    FnOk P w K mg base (L2.CX P w) 35 f fd ["tree", "names", "arguments"] (spWo K CN CG CZ CT) := by
  refine F.okX scWo (fun vs H Q E h => ?_) (fun cdv A outer s H vs Q E hr h => ?_)
  · obtain ⟨v, t, b, g, Ee, rfl, _⟩ := h
    rfl
  · refine ⟨_, (pss_cons (ps_expr (pe_callS GCk (hr.mono (by decide)) rfl gCk kCk bCk (fun σ => passAt (takes_of rfl rfl rfl rfl) σ) (by exact (pa_cons (pv 0) pa_nil))))
        (pss_one (ps_ret (pe_callS GNo hr rfl gNo kNo bNo (fun σ => passAt (takes_of rfl rfl rfl rfl) σ) (by exact (pa_cons (pv 0) (pa_cons (pv 1) (pa_cons (pv 2) pa_nil)))))))), ?_⟩
    obtain ⟨v, t, b, g, Ee, rfl, hd, hh, hf, ev, k⟩ := h
    refine ⟨_, rfl, v, t, rfl, hd, hh, hf, fun e H1 s1 => ?_, fun e H1 u s1 hu => ?_⟩
    · rcases k with ⟨_, wok, k⟩ | ⟨z, _⟩
      · exact ⟨_, rfl, _, rfl, _, rfl, v, t, b, g, Ee, rfl, dp_same s1 hd, hh, Nat.le_refl _, ok_nice e, wok, ev.same s1, k.same s1⟩
      · rw [e] at z; cases z
    · rcases k with ⟨z, _⟩ | ⟨_, k⟩
      · rw [e] at z; cases z
      · exact k H1 u s1 hu
end
end Qb
end PySem
namespace PySem
namespace Qb
open PySem.W PySem.Calls PyProof.Rows L2
/-! # sums folded -/
def Sm.nms : Sm → List Str
  | .num _ => []
  | .of w => [w]
  | .one _ a => a.nms
  | .two _ a b => a.nms ++ b.nms
  | .three _ a b c => a.nms ++ (b.nms ++ c.nms)
def numT (i : Int) : Sm := if 0 ≤ i then .num i else .one "minus" (.num (-i))
def told : Sm → Option Int
  | .num n => some n
  | .one s (.num n) => if s = "minus" then some (-n) else none
  | _ => none
/-- no names, no arguments -/
def ev0 : Ev := ⟨nmOf [], []⟩
def Rs.opt : Rs → Option Int
  | .ok i => some i
  | .er _ => none
def sted (t : Sm) : Option Int := if t.nms = [] then (vl ev0 t).opt else none
def endF (s : Str) (whole p0 p1 p2 : Sm) : Sm := match sted whole with
  | some i => numT i
  | none => match told p0 with
    | none => whole
    | some k => if s = "choose" then (if k ≠ 0 then p1 else p2) else if s = "&&" ∧ k = 0 then .num 0 else if s = "||" ∧ k ≠ 0 then .num 1 else whole
def fld : Sm → Sm
  | .num n => .num n
  | .of w => .of w
  | .one s a => endF s (.one s (fld a)) (fld a) (fld a) (fld a)
  | .two s a b => endF s (.two s (fld a) (fld b)) (fld a) (fld b) (fld b)
  | .three s a b c => endF s (.three s (fld a) (fld b) (fld c)) (fld a) (fld b) (fld c)
/-- no number too great -/
def Sm.small : Sm → Prop
  | .num n => (n.natAbs : Int) < top40
  | .of _ => True
  | .one _ a => a.small
  | .two _ a b => a.small ∧ b.small
  | .three _ a b c => a.small ∧ b.small ∧ c.small
theorem vl_num {E : Ev} {n : Int} (h : (n.natAbs : Int) < top40) : vl E (.num n) = .ok n := by
  show chk (.num n) n = _
  unfold chk
  rw [if_neg (by omega)]
theorem vl_numT {E : Ev} {i : Int} (h : (i.natAbs : Int) < top40) : vl E (numT i) = .ok i := by
  unfold numT
  split
  · exact vl_num h
  · show (vl E (.num (-i))).then _ = _
    rw [vl_num (by rw [Int.natAbs_neg]; exact h)]
    show (if ("minus" : Str) = "minus" then Rs.ok (- -i) else tru (decide (-i = 0))) = _
    rw [if_pos rfl, Int.neg_neg]
theorem numT_nms (i : Int) : (numT i).nms = [] := by
  unfold numT
  split <;> rfl
theorem numT_small {i : Int} (h : (i.natAbs : Int) < top40) : (numT i).small := by
  unfold numT
  split
  · exact h
  · show ((-i).natAbs : Int) < top40
    rw [Int.natAbs_neg]; exact h
theorem told_vl {E : Ev} {t : Sm} (h : t.small) {k : Int} (e : told t = some k) : vl E t = .ok k := by
  match t, h, e with
  | .num n, h, e =>
    cases e
    exact vl_num h
  | .one s (.num n), h, e =>
    have e' : (if s = "minus" then some (-n) else none) = some k := e
    split at e'
    · rename_i z
      cases e'
      show (vl E (.num n)).then _ = _
      rw [vl_num h]
      show (if s = "minus" then Rs.ok (-n) else _) = _
      rw [if_pos z]
    · cases e'
  | .of w, h, e => cases e
  | .one s (.of w), h, e => cases e
  | .one s (.one a b), h, e => cases e
  | .one s (.two a b c), h, e => cases e
  | .one s (.three a b c d), h, e => cases e
  | .two s a b, h, e => cases e
  | .three s a b c, h, e => cases e
theorem opt_ok {r : Rs} {i : Int} (h : r.opt = some i) : r = .ok i := by
  cases r with
  | ok j => cases h; rfl
  | er e => cases h
/-- an answer whose sums are folded -/
def Rs.fd : Rs → Rs
  | .ok i => .ok i
  | .er (.noI x) => .er (.noI x)
  | .er (.great t) => .er (.great (fld t))
  | .er (.zero t) => .er (.zero (fld t))
theorem fd_then {r : Rs} {f g : Int → Rs} (h : ∀ i, g i = (f i).fd) : r.fd.then g = (r.then f).fd := by
  match r with
  | .ok i => exact h i
  | .er (.noI _) => rfl
  | .er (.great _) => rfl
  | .er (.zero _) => rfl
theorem fd_ok {r : Rs} {i : Int} (h : r.fd = .ok i) : r = .ok i := by
  match r, h with
  | .ok j, h => exact h
  | .er (.noI _), h => cases h
  | .er (.great _), h => cases h
  | .er (.zero _), h => cases h
theorem txt_no {E E' : Ev} {t : Sm} (h : t.nms = []) : vl E t = vl E' t := by
  induction t with
  | num n => rfl
  | of w => cases h
  | one s a ih =>
    show (vl E a).then _ = (vl E' a).then _
    rw [ih h]
  | two s a b ia ib =>
    obtain ⟨h1, h2⟩ := List.append_eq_nil_iff.mp (show a.nms ++ b.nms = [] from h)
    show (vl E a).then _ = (vl E' a).then _
    rw [ia h1, ib h2]
  | three s a b c ia ib ic =>
    obtain ⟨h1, h2⟩ := List.append_eq_nil_iff.mp (show a.nms ++ (b.nms ++ c.nms) = [] from h)
    obtain ⟨h2, h3⟩ := List.append_eq_nil_iff.mp h2
    show (vl E a).then _ = (vl E' a).then _
    rw [ia h1, ib h2, ic h3]
theorem sted_vl {E : Ev} {t : Sm} {i : Int} (h : sted t = some i) : vl E t = .ok i ∧ t.nms = [] := by
  unfold sted at h
  split at h
  · rename_i e
    rw [txt_no (E' := ev0) e]
    exact ⟨opt_ok h, e⟩
  · cases h
theorem sted_er {E : Ev} {t : Sm} {e : Er} (h : vl E t = .er e) : sted t = none := by
  cases q : sted t with
  | none => rfl
  | some i =>
    rw [(sted_vl (E := E) q).1] at h
    cases h
/-- what folding keeps -/
structure Kp (t u : Sm) : Prop where
  nm : ∀ w ∈ u.nms, w ∈ t.nms
  small : u.small
  ht : u.ht ≤ t.ht
  nice : u.nice
theorem small0 : (Sm.num 0).small := by show (((0 : Int).natAbs : Nat) : Int) < top40; decide
theorem small1 : (Sm.num 1).small := by show (((1 : Int).natAbs : Nat) : Int) < top40; decide
theorem numT_nice {i : Int} : (numT i).nice := by
  unfold numT
  split
  · assumption
  · exact ⟨.inl rfl, by show (0 : Int) ≤ -i; omega⟩
theorem numT_ht (i : Int) : (numT i).ht ≤ 1 := by
  unfold numT
  split
  · exact Nat.zero_le _
  · exact Nat.le_refl _
theorem kp_num {t : Sm} {i : Int} (h : (i.natAbs : Int) < top40) (ht : 1 ≤ t.ht) : Kp t (numT i) := ⟨(fun w m => by rw [numT_nms] at m; cases m), numT_small h, Nat.le_trans (numT_ht i) ht, numT_nice⟩
theorem kp_end {t whole p0 p1 p2 : Sm} {s : Str} (ht : 1 ≤ t.ht) (kw : Kp t whole) (k1 : s = "choose" → Kp t p1) (k2 : s = "choose" → Kp t p2) : Kp t (endF s whole p0 p1 p2) := by
  unfold endF
  split
  · rename_i i e
    have f := vl_fin ev0 whole
    rw [(sted_vl (E := ev0) e).1] at f
    exact kp_num f ht
  · split
    · exact kw
    · split
      · rename_i z
        split
        · exact k1 z
        · exact k2 z
      · split
        · exact ⟨fun w m => (by cases m), small0, Nat.zero_le _, Int.le_refl _⟩
        · split
          · exact ⟨fun w m => (by cases m), small1, Nat.zero_le _, by show (0 : Int) ≤ 1; decide⟩
          · exact kw
theorem op_nch {s : Str} (h : isOp s = true) : s ≠ "choose" := fun z => by rw [z] at h; exact absurd h (by decide +kernel)
theorem fld_kp : ∀ {t : Sm}, t.nice → t.small → Kp t (fld t)
  | .num n, h, g => ⟨fun w m => m, g, Nat.le_refl _, h⟩
  | .of w, h, g => ⟨fun w m => m, g, Nat.le_refl _, h⟩
  | .one s a, h, g => by
    have k := fld_kp (t := a) h.2 g
    have nc : s ≠ "choose" := by rcases h.1 with z | z <;> (rw [z]; decide +kernel)
    exact kp_end (by show 1 ≤ 1 + a.ht; omega) ⟨k.nm, k.small, by have := k.ht; show 1 + _ ≤ 1 + _; omega, h.1, k.nice⟩ (fun z => (nc z).elim) (fun z => (nc z).elim)
  | .two s a b, h, g => by
    have k := fld_kp (t := a) h.2.1 g.1
    have l := fld_kp (t := b) h.2.2 g.2
    have nc := op_nch h.1
    exact kp_end (by show 1 ≤ 1 + _; omega) ⟨fun w m => by
      rcases List.mem_append.mp (show w ∈ (fld a).nms ++ (fld b).nms from m) with m | m
      · exact List.mem_append.mpr (.inl (k.nm w m))
      · exact List.mem_append.mpr (.inr (l.nm w m)), ⟨k.small, l.small⟩, by have := k.ht; have := l.ht; show 1 + max _ _ ≤ 1 + max _ _; omega, h.1, k.nice, l.nice⟩ (fun z => (nc z).elim) (fun z => (nc z).elim)
  | .three s a b c, h, g => by
    have k := fld_kp (t := a) h.2.1 g.1
    have l := fld_kp (t := b) h.2.2.1 g.2.1
    have m := fld_kp (t := c) h.2.2.2 g.2.2
    refine kp_end (by show 1 ≤ 1 + _; omega) ⟨fun w x => ?_, ⟨k.small, l.small, m.small⟩, by have := k.ht; have := l.ht; have := m.ht; show 1 + max _ (max _ _) ≤ 1 + max _ (max _ _); omega, h.1, k.nice, l.nice, m.nice⟩ (fun _ => ?_) (fun _ => ?_)
    · rcases List.mem_append.mp (show w ∈ (fld a).nms ++ ((fld b).nms ++ (fld c).nms) from x) with x | x
      · exact List.mem_append.mpr (.inl (k.nm w x))
      · rcases List.mem_append.mp x with x | x
        · exact List.mem_append.mpr (.inr (List.mem_append.mpr (.inl (l.nm w x))))
        · exact List.mem_append.mpr (.inr (List.mem_append.mpr (.inr (m.nm w x))))
    · exact ⟨fun w x => List.mem_append.mpr (.inr (List.mem_append.mpr (.inl (l.nm w x)))), l.small, by have := l.ht; show _ ≤ 1 + max _ (max _ _); omega, l.nice⟩
    · exact ⟨fun w x => List.mem_append.mpr (.inr (List.mem_append.mpr (.inr (m.nm w x)))), m.small, by have := m.ht; show _ ≤ 1 + max _ (max _ _); omega, m.nice⟩
/-- the value of what stands at the end of folding -/
theorem vl_end {E : Ev} {s : Str} {whole p0 p1 p2 : Sm} {r : Rs} (hw : vl E whole = r) (g0 : p0.small) (hc : s = "choose" → ∀ k, vl E p0 = .ok k → vl E (if k ≠ 0 then p1 else p2) = r) (ha : s = "&&" → vl E p0 = .ok 0 → r = .ok 0) (ho : s = "||" → ∀ k, k ≠ 0 → vl E p0 = .ok k → r = .ok 1) : vl E (endF s whole p0 p1 p2) = r := by
  unfold endF
  split
  · rename_i i e
    have z := (sted_vl (E := E) e).1
    have f := vl_fin E whole
    rw [z] at f
    rw [vl_numT f, ← hw, z]
  · split
    · exact hw
    · rename_i k e
      have v0 := told_vl (E := E) g0 e
      split
      · rename_i z
        have := hc z k v0
        split
        · rename_i nk; rw [if_pos nk] at this; exact this
        · rename_i nk; rw [if_neg nk] at this; exact this
      · split
        · rename_i z
          rw [ha z.1 (by rw [v0, z.2])]
          exact vl_num small0
        · split
          · rename_i z
            rw [ho z.1 k z.2 v0]
            exact vl_num small1
          · exact hw
theorem chk_fd {t : Sm} {i : Int} {u : Sm} (h : top40 ≤ (i.natAbs : Int) → fld t = u) : chk u i = (chk t i).fd := by
  unfold chk
  split
  · rename_i z
    rw [← h z]
    rfl
  · rfl
theorem jn_fd {t u : Sm} {s : Str} {i j : Int} (h : (∃ e, jn t s i j = .er e) → fld t = u) : jn u s i j = (jn t s i j).fd := by
  unfold jn at h ⊢
  have c : ∀ q : Int, ((∃ e, chk t q = .er e) → fld t = u) → chk u q = (chk t q).fd := fun q h => chk_fd fun z => h (by unfold chk; rw [if_pos z]; exact ⟨_, rfl⟩)
  split
  · rename_i z; rw [if_pos z] at h; exact c _ h
  · rename_i z1
    rw [if_neg z1] at h
    split
    · rename_i z; rw [if_pos z] at h; exact c _ h
    · rename_i z2
      rw [if_neg z2] at h
      split
      · rename_i z; rw [if_pos z] at h; exact c _ h
      · rename_i z3
        rw [if_neg z3] at h
        split
        · rename_i z
          rw [if_pos z] at h
          split
          · rename_i z0
            rw [if_pos z0] at h
            rw [← h ⟨_, rfl⟩]
            rfl
          · rename_i z0
            rw [if_neg z0] at h
            exact c _ h
        · rfl
theorem er_fd {r : Rs} {e : Er} (h : r = .er e) : ∃ e', r.fd = .er e' := by
  subst h
  cases e with
  | noI x => exact ⟨_, rfl⟩
  | great t => exact ⟨_, rfl⟩
  | zero t => exact ⟨_, rfl⟩
/-- a sum whose parts alone are folded -/
def whl : Sm → Sm
  | .num n => .num n
  | .of w => .of w
  | .one s a => .one s (fld a)
  | .two s a b => .two s (fld a) (fld b)
  | .three s a b c => .three s (fld a) (fld b) (fld c)
theorem fld_vl2 (E : Ev) : ∀ {t : Sm}, t.nice → t.small → vl E (fld t) = (vl E t).fd ∧ vl E (whl t) = (vl E t).fd
  | .num n, h, g => by
    have z : vl E (.num n) = (vl E (.num n)).fd := by
      rw [vl_num g]
      rfl
    exact ⟨z, z⟩
  | .of w, h, g => by
    have z : (match numO (txt E w) with
      | some i => Rs.ok i
      | none => .er (.noI (txt E w))) = Rs.fd (match numO (txt E w) with
      | some i => Rs.ok i
      | none => .er (.noI (txt E w))) := by cases numO (txt E w) <;> rfl
    exact ⟨z, z⟩
  | .one s a, h, g => by
    have ih := (fld_vl2 E (t := a) h.2 g).1
    have kp := fld_kp (t := a) h.2 g
    have nc : s ≠ "choose" ∧ s ≠ "&&" ∧ s ≠ "||" := by rcases h.1 with z | z <;> (rw [z]; decide +kernel)
    have hw : vl E (.one s (fld a)) = (vl E (.one s a)).fd := by
      show (vl E (fld a)).then _ = _
      rw [ih]
      exact fd_then fun i => by
        split
        · rfl
        · rfl
    exact ⟨vl_end hw kp.small (fun z => (nc.1 z).elim) (fun z => (nc.2.1 z).elim) (fun z => (nc.2.2 z).elim), hw⟩
  | .two s a b, h, g => by
    have ia := (fld_vl2 E (t := a) h.2.1 g.1).1
    have ib := (fld_vl2 E (t := b) h.2.2 g.2).1
    have ka := fld_kp (t := a) h.2.1 g.1
    have nc := op_nch h.1
    have e0 : vl E (.two s a b) = (vl E a).then fun i => if s = "&&" ∧ i = 0 then .ok 0 else if s = "||" ∧ i ≠ 0 then .ok 1 else (vl E b).then fun j => if s = "&&" ∨ s = "||" then tru (decide (j ≠ 0)) else jn (.two s a b) s i j := rfl
    have hw : vl E (.two s (fld a) (fld b)) = (vl E (.two s a b)).fd := by
      have e1 : vl E (.two s (fld a) (fld b)) = (vl E (fld a)).then fun i => if s = "&&" ∧ i = 0 then .ok 0 else if s = "||" ∧ i ≠ 0 then .ok 1 else (vl E (fld b)).then fun j => if s = "&&" ∨ s = "||" then tru (decide (j ≠ 0)) else jn (.two s (fld a) (fld b)) s i j := rfl
      have go : ∀ i j, vl E a = .ok i → vl E b = .ok j → ¬ (s = "&&" ∧ i = 0) → ¬ (s = "||" ∧ i ≠ 0) → ¬ (s = "&&" ∨ s = "||") → jn (.two s (fld a) (fld b)) s i j = (jn (.two s a b) s i j).fd := fun i j hi hj n1 n2 n3 => by
        refine jn_fd fun ⟨e, he⟩ => ?_
        show endF s (.two s (fld a) (fld b)) (fld a) (fld b) (fld b) = _
        have hv : ∃ e', vl E (.two s (fld a) (fld b)) = .er e' := by
          rw [e1, ia, hi, ib, hj]
          show ∃ e', (if s = "&&" ∧ i = 0 then Rs.ok 0 else if s = "||" ∧ i ≠ 0 then .ok 1 else if s = "&&" ∨ s = "||" then tru (decide (j ≠ 0)) else jn (.two s (fld a) (fld b)) s i j) = .er e'
          rw [if_neg n1, if_neg n2, if_neg n3]
          revert he
          unfold jn chk
          repeat' split
          all_goals first | (intro z; cases z; done) | exact fun _ => ⟨_, rfl⟩
        obtain ⟨e', he'⟩ := hv
        unfold endF
        rw [sted_er he']
        dsimp only
        split
        · rfl
        · rw [if_neg nc, if_neg fun z => n3 (.inl z.1), if_neg fun z => n3 (.inr z.1)]
      rw [e1, e0, ia]
      cases hi : vl E a with
      | er e =>
        cases e <;> rfl
      | ok i =>
        show (if s = "&&" ∧ i = 0 then Rs.ok 0 else if s = "||" ∧ i ≠ 0 then .ok 1 else (vl E (fld b)).then fun j => if s = "&&" ∨ s = "||" then tru (decide (j ≠ 0)) else jn (.two s (fld a) (fld b)) s i j) = Rs.fd (if s = "&&" ∧ i = 0 then Rs.ok 0 else if s = "||" ∧ i ≠ 0 then .ok 1 else (vl E b).then fun j => if s = "&&" ∨ s = "||" then tru (decide (j ≠ 0)) else jn (.two s a b) s i j)
        split
        · rfl
        · rename_i n1
          split
          · rfl
          · rename_i n2
            rw [ib]
            cases hj : vl E b with
            | er e => cases e <;> rfl
            | ok j =>
              show (if s = "&&" ∨ s = "||" then tru (decide (j ≠ 0)) else jn (.two s (fld a) (fld b)) s i j) = Rs.fd (if s = "&&" ∨ s = "||" then tru (decide (j ≠ 0)) else jn (.two s a b) s i j)
              split
              · rfl
              · rename_i n3
                exact go i j hi hj n1 n2 n3
    refine ⟨vl_end hw ka.small (fun z => (nc z).elim) (fun z hz => ?_) (fun z k nk hk => ?_), hw⟩
    · have hi : vl E a = .ok 0 := fd_ok (by rw [← ia]; exact hz)
      rw [e0, hi]
      show Rs.fd (if s = "&&" ∧ (0 : Int) = 0 then Rs.ok 0 else _) = _
      rw [if_pos ⟨z, rfl⟩]
      rfl
    · have hi : vl E a = .ok k := fd_ok (by rw [← ia]; exact hk)
      rw [e0, hi]
      show Rs.fd (if s = "&&" ∧ k = 0 then Rs.ok 0 else if s = "||" ∧ k ≠ 0 then .ok 1 else _) = _
      rw [if_neg (fun y => nk y.2), if_pos ⟨z, nk⟩]
      rfl
  | .three s a b c, h, g => by
    have ia := (fld_vl2 E (t := a) h.2.1 g.1).1
    have ib := (fld_vl2 E (t := b) h.2.2.1 g.2.1).1
    have ic := (fld_vl2 E (t := c) h.2.2.2 g.2.2).1
    have ka := fld_kp (t := a) h.2.1 g.1
    have e0 : vl E (.three s a b c) = (vl E a).then fun i => if i ≠ 0 then vl E b else vl E c := rfl
    have hw : vl E (.three s (fld a) (fld b) (fld c)) = (vl E (.three s a b c)).fd := by
      show (vl E (fld a)).then _ = _
      rw [ia, e0]
      exact fd_then fun i => by
        split
        · exact ib
        · exact ic
    have na : s ≠ "&&" ∧ s ≠ "||" := by rw [h.1]; decide +kernel
    refine ⟨vl_end hw ka.small (fun z k hk => ?_) (fun z => (na.1 z).elim) (fun z => (na.2 z).elim), hw⟩
    have hi : vl E a = .ok k := fd_ok (by rw [← ia]; exact hk)
    rw [e0, hi]
    show _ = Rs.fd (if k ≠ 0 then vl E b else vl E c)
    split
    · exact ib
    · exact ic
theorem fld_vl (E : Ev) {t : Sm} (h : t.nice) (g : t.small) : vl E (fld t) = (vl E t).fd := (fld_vl2 E h g).1
/-- a sum without names that comes to a number is folded to it -/
theorem fld_num {t : Sm} (h : t.nice) (g : t.small) (n : t.nms = []) {i : Int} (e : vl ev0 t = .ok i) : fld t = numT i := by
  have v : vl ev0 (whl t) = .ok i := by rw [(fld_vl2 ev0 h g).2, e]; rfl
  have w : ∀ {s : Str} {x p0 p1 p2 : Sm}, x.nms = [] → vl ev0 x = .ok i → endF s x p0 p1 p2 = numT i := fun {s x p0 p1 p2} nx vx => by
    unfold endF
    have : sted x = some i := by
      unfold sted
      rw [if_pos nx, vx]
      rfl
    rw [this]
  have nil : ∀ {u : Sm}, u.nice → u.small → u.nms = [] → (fld u).nms = [] := fun {u} a b c => by
    cases q : (fld u).nms with
    | nil => rfl
    | cons w l =>
      have := (fld_kp a b).nm w (by rw [q]; exact .head _)
      rw [c] at this
      cases this
  cases t with
  | num m =>
    rw [vl_num g] at e
    have em : i = m := by injection e with e; exact e.symm
    rw [em]
    show Sm.num m = numT m
    unfold numT
    rw [if_pos (show 0 ≤ m from h)]
  | of x => cases n
  | one s a => exact w (nil h.2 g n) v
  | two s a b =>
    obtain ⟨n1, n2⟩ := List.append_eq_nil_iff.mp (show a.nms ++ b.nms = [] from n)
    exact w (by show (fld a).nms ++ (fld b).nms = []; rw [nil h.2.1 g.1 n1, nil h.2.2 g.2 n2]; rfl) v
  | three s a b c =>
    obtain ⟨n1, n2⟩ := List.append_eq_nil_iff.mp (show a.nms ++ (b.nms ++ c.nms) = [] from n)
    obtain ⟨n2, n3⟩ := List.append_eq_nil_iff.mp n2
    exact w (by show (fld a).nms ++ ((fld b).nms ++ (fld c).nms) = []; rw [nil h.2.1 g.1 n1, nil h.2.2.1 g.2.1 n2, nil h.2.2.2 g.2.2 n3]; rfl) v
end Qb
end PySem
namespace PySem
namespace Qb
open PySem.W PySem.Calls PyProof.Rows L2
/-! # the law's integers and held texts -/
def optV : Option Int → V
  | some i => .int i
  | none => .non
def spLi : Sp := fun vs H Q _ => ∃ (x : Str), vs = [.str x] ∧ x.length ≤ 600 ∧ PyData.strOk x = true ∧ ∀ H', Same H H' → Q (optV (numO x)) H'
def spHe (K : Frag) : Sp := fun vs H Q _ => ∃ (x : Str) (b g : Addr) (E : Ev), vs = [.str x, .ref b, .ref g] ∧ EvOk K H b g E ∧ okW x ∧ Q (.str (txt E x)) H
def ndB (c : Nat) : Bool := !decide (c ∈ cs ("0123456789" : Str))
theorem filt_cons {l : L} {i c : Nat} (h : l[i]? = some c) : (l.take (i + 1)).filter ndB = (l.take i).filter ndB ++ (if ndB c then [c] else []) := by
  rw [take_snoc h, List.filter_append]
  congr 1
  cases e : ndB c <;> simp [e]
theorem filt_nil {l : L} : (l.filter ndB).isEmpty = l.all fun c => decide (c ∈ digC) := by
  have e : cs ("0123456789" : Str) = digC := by decide +kernel
  induction l with
  | nil => rfl
  | cons c l ih =>
    rw [List.filter_cons, List.all_cons, ← ih]
    unfold ndB
    rw [e]
    by_cases h : c ∈ digC
    · rw [decide_eq_true h]; rfl
    · rw [decide_eq_false h]; rfl
theorem ok_chars {x : Str} (h : PyData.strOk x = true) : ∀ c ∈ cs x, PyData.strOk (⟨#[c]⟩ : Str) = true := fun c m => by
  unfold PyData.strOk at h ⊢
  rw [Array.all_eq_true_iff_forall_mem] at h
  have z := h c (by simpa [cs] using m)
  simpa using z
theorem sh_signs {x : Str} (h : PyData.strOk x = true) {l : L} (m : ∀ c ∈ l, c ∈ cs x) : SeqAt.shaped (.list (l.map fun c => PyData.str (⟨#[c]⟩ : Str))) = true :=
  sh_ok (n := 1) (sh_lst (n := 0) fun d md => by
    obtain ⟨c, mc, rfl⟩ := List.mem_map.mp md
    exact sh_str (ok_chars h c (m c mc))) (by decide)
theorem dpSigns {K : Frag} {H : Hp} : ∀ l : L, DpAll K H (l.map fun c => V.str (⟨#[c]⟩ : Str)) (l.map fun c => PyData.str (⟨#[c]⟩ : Str))
  | [] => .nil
  | c :: l => .cons (.str _) (dpSigns l)
section
variable {P : Program} {w : World} {K : Frag} {mg : Str → Option Value} {base : Heap}
abbrev sLi : Stmt := top 65
abbrev nLi : List Str := ["_law_shown", "_law_figures", "_law_sign"]
theorem scLi : FnScope nLi ["_law_shown"] (defScope sLi) := ⟨rfl, rfl, rfl, by decide +kernel, rfl, by decide +kernel, by decide +kernel⟩
theorem has_Li {f : Addr} {fd : FuncData}  (F : Fun K "_law_integer" "_law_integer" sLi f fd) (g : mg "_law_integer" = some (.ref f)) (B : Blt mg)  :
    Has P w K mg base 1 "_law_integer" ["_law_shown"] (spLi) := by
  refine has_of F g (F.binds (ps := ["_law_shown"]) fun _ _ _ _ _ _ us hl => match us, hl with | [_], _ => rfl) (F.ok scLi (fun vs H Q E h => ?_) (fun cdv A outer s H vs Q E hr h => ?_))
  · obtain ⟨x, rfl, _⟩ := h
    rfl
  · refine ⟨_, (pss_cons (ps_weak (ps_set (i := 1) scLi.nd rfl (.inl rfl) (pe_ifExp (pt_cmpR op_eq (pe_slice sl_str (pv 0) po_none (po_some pe_int)) pe_str (nomark _)) (pe_slice sl_str (pv 0) (po_some pe_int) po_none) (pv 0))))
        (pss_cons (ps_if (pt_cmpR op_eq (pv 0) pe_str (nomark _)) (pss_one (ps_ret pe_int)) pss_nil)
        (pss_cons (ps_if (PW.pt (pw_or (pt_cmpR op_eq (pv 1) pe_str (nomark _)) (pw_or (pt_cmpR op_gt (pe_callB call_len (by rfl) B.len PySem.boot_len (pa_cons (pv 1) pa_nil)) pe_int (nomark _)) (pw_or1 (pt_cmpR (op_neD hr.units) (pe_lc (own := [("_law_sign", 2)]) (g := gName 2) rfl scLi.nd (pi_str (pv 1)) (blkOk_by (N := nLi) (sc := defScope sLi) (by decide +kernel)) (fun _ _ _ _ _ => pg_name (i := 2) scLi.nd rfl (.inl rfl)) (fun _ _ _ _ _ => pts_one (pt_cmpR op_notIn_sign (pv 2) pe_str (by rfl))) (fun _ _ _ _ _ => (pv 2))) (pe_lst pa_nil) (nomark _)))))) (pss_one (ps_ret pe_non)) pss_nil)
        (pss_cons (ps_if (PW.pt (pw_and (pt_cmpR op_eq (pe_ix ix_str (pv 1) pe_int (fun _ _ => rfl)) pe_str (nomark _)) (pw_and1 (pt_cmpR op_ne (pv 0) pe_str (nomark _))))) (pss_one (ps_ret pe_non)) pss_nil)
        (pss_one (ps_ret (pe_callTy call_int_str (by rfl) B.int (by decide +kernel) (pa_cons (pv 0) pa_nil)))))))), ?_⟩
    obtain ⟨x, rfl, hx, ok, k⟩ := h
    have hz : x.length ≤ sizeLine := line_small (by omega)
    refine ⟨fun σ' H' => H' = H ∧ ∃ y : Str, σ' = [some (.str x), some (.str y), none] ∧ cs y = figs (cs x), ?_, ?_⟩
    · rintro σ' H' ⟨rfl, y, rfl, ey⟩
      have yl : y.length ≤ x.length := by
        rw [len_cs, len_cs x, ey]
        rcases figs_eq (cs x) with ⟨_, b⟩ | ⟨_, b⟩
        · have := congrArg List.length b
          rw [List.length_cons] at this
          omega
        · rw [b]; omega
      refine ⟨_, rfl, rfl, _, rfl, ?_⟩
      by_cases h0 : x = ("" : Str)
      · have z := k H' (Same.refl _)
        have e : numO x = some 0 := by unfold numO; rw [if_pos (by rw [h0]; decide +kernel)]
        rw [e] at z
        exact if_yes (by rw [h0]; decide +kernel) z
      refine if_no (decide_eq_false fun z => h0 (V.str.inj z)) ?_
      have n0 : cs x ≠ [] := fun z => h0 (cs_nil z)
      have eO : numO x = if intB (cs x) && decide ((figs (cs x)).length ≤ 40) then some (numL (cs x)) else none := by
        unfold numO
        rw [if_neg n0]
      have bad : ∀ H1, Same H' H1 → (intB (cs x) && decide ((figs (cs x)).length ≤ 40)) = false → Q .non H1 := fun H1 s e => by
        have z := k H1 s
        rw [eO, e] at z
        exact z
      refine ⟨_, rfl, rfl, _, rfl, ?_⟩
      by_cases hy : y = ("" : Str)
      · refine if_yes (by rw [hy]; decide +kernel) (if_yes rfl (bad H' (Same.refl _) ?_))
        have e0 : figs (cs x) = [] := by rw [← ey, hy]; decide +kernel
        unfold intB figB
        rw [e0]
        rfl
      refine if_no (decide_eq_false fun z => hy (V.str.inj z)) ?_
      obtain ⟨c, r, hl⟩ : ∃ c r, cs y = c :: r := by
        cases e : cs y with
        | nil => exact absurd (cs_nil e) hy
        | cons c r => exact ⟨c, r, rfl⟩
      have ly : y.length = (figs (cs x)).length := by rw [len_cs, ey]
      refine ⟨_, rfl, .str y, y.length, rfl, ⟨line_small (by omega), rfl⟩, _, _, rfl, rfl, _, rfl, if_by (fun e => if_yes rfl (bad H' (Same.refl _) ?_)) (fun e40 => ?_)⟩
      · have h41 : ¬ (figs (cs x)).length ≤ 40 := by
          have := of_decide_eq_true e
          omega
        rw [decide_eq_false h41, Bool.and_false]
      have h40 : (figs (cs x)).length ≤ 40 := by
        have := of_decide_eq_false e40
        omega
      refine ⟨_, rfl, y, rfl, fun D hD => lc_it walk_str (fun i H1 => H1 = L2.upd H' D (.lst ((((cs y).take i).filter ndB).map fun d => V.str (⟨#[d]⟩ : Str)))) (by simp) (fun _ _ _ _ => trivial) (fun i v H1 H2 hi e yy => ?_) (fun H1 e => ?_)⟩
      · obtain ⟨rfl, d, hd, rfl⟩ := yy
        subst e
        have hd' : (cs y)[i]? = some d := by simpa using hd
        refine ⟨rfl, _, rfl, d, _, rfl, rfl, _, rfl, ?_⟩
        have ef := filt_cons hd'
        rw [ef]
        refine if_by (fun e => ?_) (fun e => ?_)
        · have en : ndB d = true := e
          rw [en, if_pos rfl]
          refine ⟨_, rfl, _, upd_same, ?_, ?_⟩
          · rw [List.length_map]
            have := List.length_filter_le ndB ((cs y).take i)
            rw [List.length_take, ← len_cs] at this
            rw [sizeLine_eq]
            omega
          · rw [upd_upd, List.map_append]
            rfl
        · have en : ndB d = false := e
          rw [en, if_neg (by decide), List.append_nil]
      · subst e
        have e2 : (cs y).take y.cps.size = cs y := List.take_of_length_le (by simp)
        rw [e2]
        have sD : Same H' (L2.upd H' D (.lst (((cs y).filter ndB).map fun d => V.str (⟨#[d]⟩ : Str)))) := same_upd hD
        generalize hms : (cs y).filter ndB = ms at sD ⊢
        have hD1 : (L2.upd H' D (.lst (ms.map fun d => V.str (⟨#[d]⟩ : Str)))) D = some (.lst (ms.map fun d => V.str (⟨#[d]⟩ : Str))) := upd_same
        generalize L2.upd H' D (.lst (ms.map fun d => V.str (⟨#[d]⟩ : Str))) = H1 at sD hD1 ⊢
        refine ⟨(by decide : 0 ≤ sizeLine), fun p np => ?_⟩
        have sp := same_upd (o := .lst []) np
        have neD : D ≠ p := fun z => by rw [← z, hD1] at np; cases np
        have sub : ∀ c ∈ ms, c ∈ cs x := fun c m => by
          rw [← hms] at m
          have m2 := (List.mem_filter.mp m).1
          rw [ey] at m2
          rcases figs_eq (cs x) with ⟨_, b⟩ | ⟨_, b⟩
          · rw [b]; exact .tail _ m2
          · rw [← b]; exact m2
        refine ⟨.list (ms.map fun c => PyData.str (⟨#[c]⟩ : Str)), .list [], .lst (SqL.of (by rw [upd_ne neD]; exact hD1)) (dpSigns ms), .lst (SqL.of upd_same) .nil, sh_signs ok sub, by decide, _, rfl, ?_⟩
        rw [eqv_nil]
        have ea : ms.isEmpty = (figs (cs x)).all fun c => decide (c ∈ digC) := by rw [← hms, filt_nil, ey]
        have ea2 : (ms.map fun c => PyData.str (⟨#[c]⟩ : Str)).isEmpty = ms.isEmpty := by cases ms <;> rfl
        rw [ea2, ea]
        have s2 := sD.trans sp
        have ne : (figs (cs x)).isEmpty = false := by rw [← ey, hl]; rfl
        cases eb : (figs (cs x)).all fun d => decide (d ∈ digC) with
        | false =>
          refine if_yes rfl (bad _ s2 ?_)
          unfold intB figB
          rw [eb, Bool.and_false, Bool.false_and, Bool.false_and]
        | true =>
          have fb : figB (cs x) = true := by
            unfold figB
            rw [ne, eb]
            rfl
          have q0 : decide (V.str x = V.str "0") = decide (cs x = [48]) := decide_eq_decide.mpr ⟨fun z => by rw [V.str.inj z]; decide +kernel, fun z => by rw [← st_cs x, z]; decide +kernel⟩
          have hd48 : ((figs (cs x)).head? == some 48) = (c == 48) := by
            rw [← ey, hl]
            rfl
          have xl : x.length ≤ 41 := by
            have := len_cs x
            rcases figs_eq (cs x) with ⟨_, b⟩ | ⟨_, b⟩
            · have := congrArg List.length b
              rw [List.length_cons] at this
              omega
            · rw [b] at h40; omega
          have fin : intB (cs x) = true → ∃ i : Int, PySem.intText? x = some i ∧ Q (.int i) (L2.upd H1 p (.lst [])) := fun e => by
            have z := k _ s2
            rw [eO, e, decide_eq_true h40] at z
            exact ⟨_, int_num fb (by omega), z⟩
          refine if_no rfl ⟨_, rfl, y, 0, c, rfl, rfl, line_small (by omega), atI_nat (j := 0) (congrArg (fun l : L => l[0]?) hl), rfl, _, rfl, ?_⟩
          rw [one_is c 48 "0" (by decide +kernel)]
          have ei : intB (cs x) = (decide (cs x = [48]) || !(c == 48)) := by
            unfold intB
            rw [fb, hd48, Bool.true_and]
          cases e48 : (c == 48) with
          | false =>
            obtain ⟨i, e1, e2⟩ := fin (by rw [ei, e48]; simp)
            exact if_no rfl (if_no rfl ⟨_, rfl, x, i, rfl, e1, by omega, e2⟩)
          | true =>
            refine if_yes rfl ⟨_, rfl, rfl, _, rfl, ?_⟩
            rw [q0]
            cases ez : decide (cs x = [48]) with
            | true =>
              obtain ⟨i, e1, e2⟩ := fin (by rw [ei, ez]; rfl)
              exact if_no rfl ⟨_, rfl, x, i, rfl, e1, by omega, e2⟩
            | false =>
              refine if_yes rfl (bad _ s2 ?_)
              rw [ei, ez, e48]
              rfl
    · refine ⟨_, rfl, _, rfl, x, rfl, hz, rfl, _, rfl, ?_⟩
      rw [first_neg]
      refine if_by (fun e => ⟨_, rfl, _, rfl, x, rfl, hz, ⟨rfl, _, rfl, figs_neg e⟩⟩) (fun e => ⟨_, rfl, ⟨rfl, _, rfl, ?_⟩⟩)
      rcases figs_eq (cs x) with ⟨a, b⟩ | ⟨a, b⟩
      · rw [e] at a; cases a
      · exact b.symm
end
end Qb
end PySem
namespace PySem
namespace Qb
open PySem.W PySem.Calls PyProof.Rows L2
/-! # all_names -/
def Sm.kids : Sm → List Sm
  | .num _ => []
  | .of _ => []
  | .one _ a => [a]
  | .two _ a b => [a, b]
  | .three _ a b c => [a, b, c]
def nmsAll (ts : List Sm) : List Str := (ts.map Sm.nms).flatten
theorem nms_kids : ∀ {t : Sm}, t.kids ≠ [] → t.nms = nmsAll t.kids
  | .num _, h => (h rfl).elim
  | .of _, h => (h rfl).elim
  | .one _ a, _ => by simp [nmsAll, Sm.kids, Sm.nms]
  | .two _ a b, _ => by simp [nmsAll, Sm.kids, Sm.nms]
  | .three _ a b c, _ => by simp [nmsAll, Sm.kids, Sm.nms]
theorem nmsAll_snoc {ts : List Sm} {i : Nat} {t : Sm} (h : ts[i]? = some t) : nmsAll (ts.take (i + 1)) = nmsAll (ts.take i) ++ t.nms := by
  unfold nmsAll
  rw [take_snoc h, List.map_append, List.flatten_append]
  simp
theorem nmsAll_le {ts : List Sm} : ∀ i, (nmsAll (ts.take i)).length ≤ (nmsAll ts).length := fun i => by
  have e : nmsAll ts = nmsAll (ts.take i) ++ nmsAll (ts.drop i) := by
    unfold nmsAll
    rw [← List.flatten_append, ← List.map_append, List.take_append_drop]
  rw [e, List.length_append]
  omega
theorem lc2_nms {K : Frag} {spA : Sp} {v : V} {H : Hp} {Q : VK} {tw : TE} {xs : List V} {ts : List Sm}
    (hw : ∀ R : VK, (∀ T H1, Same H H1 → SqT K H1 T xs → R (.ref T) H1) → tw [some v, none, none] H R) (all0 : DpAll K H xs (ts.map Sm.d)) (few : (nmsAll ts).length ≤ 1000)
    (ask : ∀ {x : V} {t : Sm} {H' : Hp} {Q' : VK}, t ∈ ts → Dp K H' x t.d → (∀ H2 C, Same H' H2 → H' C = none → H2 C = some (.lst (t.nms.map V.str)) → Q' (.ref C) H2) → spA ([x] ++ []) H' Q' E0)
    (k : ∀ H' D, Same H H' → H D = none → H' D = some (.lst ((nmsAll ts).map V.str)) → Q (.ref D) H') : tLc2 (iTup K tw) (gName 1) tYes (iList K (tCall spA [] E0 (tCons (tVar 1) tNil))) (gName 2) tYes (tVar 2) [1, 2] [2] [some v, none, none] H Q := by
  refine hw _ fun T H1 s0 hT => ⟨T, rfl, ⟨_, hT⟩, fun D nD => ?_⟩
  have all := dpAll_same s0 all0
  have nDH : H D = none := by
    cases e : H D with
    | none => rfl
    | some o => rw [s0 _ _ e] at nD; cases nD
  have lx : xs.length = ts.length := by rw [dpLen all, List.length_map]
  refine ⟨fun i m H' => m = xs.length - i ∧ i ≤ xs.length ∧ Same H1 H' ∧ H' D = some (.lst ((nmsAll (ts.take i)).map V.str)), ⟨_, rfl, Nat.zero_le _, same_upd nD, upd_same⟩, fun i m H' e => ?_⟩
  obtain ⟨rfl, il, s1, hD⟩ := e
  have w1 := walk_tup (K := K) (a := T) (xs := xs)
  by_cases hi : i < xs.length
  · refine .inr ⟨w1.goes i H' hi (sqT_same s1 hT), fun H2 => i + 1 ≤ xs.length ∧ Same H1 H2 ∧ H2 D = some (.lst ((nmsAll (ts.take (i + 1))).map V.str)), fun H2 e => ⟨xs.length - (i + 1), by omega, rfl, e⟩, fun x H2 y => ?_⟩
    obtain ⟨rfl, hx⟩ := w1.yields i H' x H2 hi (sqT_same s1 hT) y
    obtain ⟨d, hdi, dp⟩ := dpAt' all hx
    obtain ⟨t, ht, rfl⟩ : ∃ t, ts[i]? = some t ∧ t.d = d := by
      rw [List.getElem?_map] at hdi
      cases z : ts[i]? with
      | none => rw [z] at hdi; cases hdi
      | some c => rw [z] at hdi; exact ⟨c, rfl, Option.some.inj hdi⟩
    refine ⟨rfl, ?_⟩
    unfold tYes
    simp only [↓reduceIte]
    refine ⟨_, rfl, ask (List.mem_of_getElem? ht) (dp_same s1 dp) fun H3 C s3 nC hC => ?_⟩
    have neC : C ≠ D := fun z => by rw [z, hD] at nC; cases nC
    have w2 := walk_list (K := K) (a := C) (xs := t.nms.map V.str)
    have tk := nmsAll_snoc ht
    have lt := nmsAll_le (ts := ts) (i + 1)
    rw [tk, List.length_append] at lt
    refine ⟨C, rfl, ⟨_, SqL.of hC⟩, ?_⟩
    refine ⟨fun j m H4 => m = (t.nms.map V.str).length - j ∧ j ≤ (t.nms.map V.str).length ∧ Same H1 H4 ∧ H4 C = some (.lst (t.nms.map V.str)) ∧ H4 D = some (.lst ((nmsAll (ts.take i) ++ t.nms.take j).map V.str)), ⟨_, rfl, Nat.zero_le _, s1.trans s3, hC, by rw [List.take_zero, List.append_nil]; exact s3 _ _ hD⟩, fun j m H4 e => ?_⟩
    obtain ⟨rfl, jl, s4, hC4, hD4⟩ := e
    by_cases hj : j < (t.nms.map V.str).length
    · refine .inr ⟨w2.goes j H4 hj (SqL.of hC4), fun H5 => j + 1 ≤ (t.nms.map V.str).length ∧ Same H1 H5 ∧ H5 C = some (.lst (t.nms.map V.str)) ∧ H5 D = some (.lst ((nmsAll (ts.take i) ++ t.nms.take (j + 1)).map V.str)), fun H5 e => ⟨(t.nms.map V.str).length - (j + 1), by omega, rfl, e⟩, fun x H5 y => ?_⟩
      obtain ⟨rfl, hx5⟩ := w2.yields j H4 x H5 hj (SqL.of hC4) y
      obtain ⟨w, hw5, rfl⟩ : ∃ w, t.nms[j]? = some w ∧ V.str w = x := by
        rw [List.getElem?_map] at hx5
        cases z : t.nms[j]? with
        | none => rw [z] at hx5; cases hx5
        | some c => rw [z] at hx5; exact ⟨c, rfl, Option.some.inj hx5⟩
      rw [List.length_map] at hj
      refine ⟨rfl, _, rfl, _, hD4, ?_, by rw [List.length_map]; omega, ?_, ?_, ?_⟩
      · rw [List.length_map, List.length_append, List.length_take]
        exact Nat.lt_of_lt_of_le (by omega : (nmsAll (ts.take i)).length + min j t.nms.length < 1001) (by decide)
      · exact fun b o h => by
          have ne : b ≠ D := fun z => by rw [z, nD] at h; cases h
          rw [upd_ne ne]
          exact s4 b o h
      · rw [upd_ne neC]; exact hC4
      · rw [upd_same, take_snoc hw5, ← List.append_assoc, List.map_append (l₂ := [w])]
        rfl
    · have ej : j = (t.nms.map V.str).length := by omega
      subst ej
      refine .inl ⟨w2.stops H4 (SqL.of hC4), by omega, s4, ?_⟩
      rw [tk]
      rw [List.length_map, List.take_of_length_le (Nat.le_refl _)] at hD4
      exact hD4
  · have ei : i = xs.length := by omega
    subst ei
    refine .inl ⟨w1.stops H' (sqT_same s1 hT), ?_⟩
    rw [lx, List.take_of_length_le (Nat.le_refl _)] at hD
    exact k H' D (s0.trans s1) nDH hD
def spAl (K : Frag) : Nat → Sp
  | 0 => fun _ _ _ _ => False
  | n + 1 => fun vs H Q _ => ∃ (v : V) (t : Sm), vs = [v] ∧ Dp K H v t.d ∧ t.ht ≤ n ∧ t.nice ∧ t.nms.length ≤ 1000 ∧ ∀ H' D, Same H H' → H D = none → H' D = some (.lst (t.nms.map V.str)) → Q (.ref D) H'
theorem next_ret {t : TE} {D D' : Ends} {σ : L2.St} {H : Hp} (h : t σ H D.rt) : tNext { D' with nx := tRet t D } σ H := h
theorem cut1_ix {n : Nat} (h : 1 ≤ n) : HT.sIx n 0 (some 1) = 1 := (HT.sIx_nat n 0 1).trans (Nat.min_eq_left h)
theorem s_ne {s x : Str} (h : s ≠ x) : decide (V.str s = V.str x) = false := decide_eq_false fun z => h (V.str.inj z)
theorem cut_from1 {xs : List V} (h : 1 ≤ xs.length) : cutV xs (some 1) none = xs.drop 1 := by
  show (xs.drop (HT.sIx xs.length 0 (some 1))).take (HT.sIx xs.length xs.length none - HT.sIx xs.length 0 (some 1)) = _
  have e : HT.sIx xs.length 0 (some 1) = 1 := by
    have z := HT.sIx_nat xs.length 0 1
    exact z.trans (Nat.min_eq_left h)
  rw [e, show HT.sIx xs.length xs.length none = xs.length by rfl]
  exact List.take_of_length_le (by rw [List.length_drop]; exact Nat.le_refl _)
section
variable {P : Program} {w : World} {K : Frag} {mg : Str → Option Value} {base : Heap}
abbrev sAl : Stmt := top 39
abbrev nAl : List Str := ["tree", "part", "name"]
theorem scAl : FnScope nAl ["tree"] (defScope sAl) := ⟨rfl, rfl, rfl, by decide +kernel, rfl, by decide +kernel, by decide +kernel⟩
theorem ok_Al {f : Addr} {fd : FuncData}  (F : Fun K "all_names" "all_names" sAl f fd) (gAl : mg "all_names" = some (.ref f)) (bAl : Binds K fd ["tree"] []) (B : Blt mg)  :
    ∀ n, FnOk P w K mg base CX0 (n + 1) f fd ["tree"] (spAl K n)
  | 0 => F.ok scAl (fun vs H Q E h => h.elim) (fun cdv A outer s H vs Q E hr h => h.elim)
  | n + 1 => by
    have GAl := ok_Al F gAl bAl B n
    have kAl := F.kp
    refine F.ok scAl (fun vs H Q E h => ?_) (fun cdv A outer s H vs Q E hr h => ?_)
    · obtain ⟨v, t, rfl, _⟩ := h
      rfl
    · refine ⟨_, (pss_cons (ps_if (pt_cmpR op_eq (pe_ix ix_tup (pv 0) pe_int (fun _ _ => rfl)) pe_str (nomark _)) (pss_one (ps_ret (pe_lst pa_nil))) pss_nil)
        (pss_cons (ps_if (pt_cmpR op_eq (pe_ix ix_tup (pv 0) pe_int (fun _ _ => rfl)) pe_str (nomark _)) (pss_one (ps_ret (pe_lst (pa_cons (pe_ix ix_tup (pv 0) pe_int (fun _ _ => rfl)) pa_nil)))) pss_nil)
        (pss_one (ps_ret (pe_lc2 (own := [("part", 1), ("name", 2)]) (vs1 := [2]) (wi1 := iList K (tCall (spAl K n) [] E0 (tCons (tVar 1) tNil))) (te := tVar 2) (g := gName 1) (tt := tYes) (g1 := gName 2) (tt1 := tYes) rfl scAl.nd (pi_tup (pe_slice sl_tup (pv 0) (po_some pe_int) po_none)) (blkOk_by (N := nAl) (sc := defScope sAl) (by decide +kernel)) (by decide) (fun _ _ _ _ _ => pg_name (i := 1) scAl.nd rfl (.inl rfl)) (fun _ _ _ _ _ => pts_nil) (fun _ _ _ _ _ => pi_list (pe_call GAl hr rfl gAl kAl bAl .nil pass0 (pa_cons (pv 1) pa_nil))) (fun _ _ _ _ _ => pg_name (i := 2) scAl.nd rfl (.inl rfl)) (fun _ _ _ _ _ => pts_nil) (fun _ _ _ _ _ => (pv 2))))))), ?_⟩
      obtain ⟨v, t, rfl, hd, hh, nice, few, k⟩ := h
      have kid : ∀ {u : Sm} {x : V} {H1 : Hp} {Q' : VK}, u.ht + 1 ≤ n → u.nice → u.nms.length ≤ 1000 → Dp K H1 x u.d → (∀ H2 C, Same H1 H2 → H1 C = none → H2 C = some (.lst (u.nms.map V.str)) → Q' (.ref C) H2) → spAl K n ([x] ++ []) H1 Q' E0 := by
        intro u x H1 Q' a1 a2 a3 a4 a5
        obtain ⟨n', rfl⟩ : ∃ n', n = n' + 1 := ⟨n - 1, by omega⟩
        exact ⟨x, u, rfl, a4, by omega, a2, a3, a5⟩
      cases t with
      | num i =>
        obtain ⟨p, rfl, hq⟩ := dp_num hd
        exact ⟨_, rfl, p, _, 0, _, rfl, rfl, hq, at0, rfl, _, rfl, if_yes rfl ⟨(by decide : 0 ≤ sizeLine), fun D nD => k _ D (same_upd nD) nD upd_same⟩⟩
      | of x =>
        obtain ⟨p, rfl, hq⟩ := dp_of hd
        refine ⟨_, rfl, p, _, 0, _, rfl, rfl, hq, at0, rfl, _, rfl, if_no rfl ?_⟩
        exact ⟨_, rfl, p, _, 0, _, rfl, rfl, hq, at0, rfl, _, rfl, if_yes rfl ⟨_, rfl, p, _, 1, _, rfl, rfl, hq, atI_nat (j := 1) rfl, (by decide : 1 ≤ sizeLine), fun D nD => k _ D (same_upd nD) nD upd_same⟩⟩
      | one s' a1 =>
        obtain ⟨p, x, rfl, hq, hx⟩ := pc_two hd
        have ns : s' ≠ "number" ∧ s' ≠ "of" := by rcases nice.1 with z | z <;> (rw [z]; exact ⟨by decide +kernel, by decide +kernel⟩)
        have h1 : 1 + a1.ht ≤ n := hh
        have f1 : a1.nms.length ≤ 1000 := few
        refine ⟨_, rfl, p, _, 0, _, rfl, rfl, hq, at0, rfl, _, rfl, if_no (s_ne ns.1) ?_⟩
        refine ⟨_, rfl, p, _, 0, _, rfl, rfl, hq, at0, rfl, _, rfl, if_no (s_ne ns.2) ?_⟩
        refine next_ret ?_
        refine lc2_nms (spA := spAl K n) (v := .ref p) (xs := [x]) (ts := [a1]) (fun R r => ⟨_, rfl, _, rfl, p, _, rfl, hq, ?_, fun T nT => ?_⟩) (.cons hx .nil) ?_ (fun m d q => ?_) ?_
        · rintro ⟨z, _⟩
          exact absurd z (by rw [cut1_ix (by simp)]; decide)
        · rw [cut_from1 (by show 1 ≤ List.length (_ :: _); rw [List.length_cons]; omega)]
          exact r T _ (same_upd nT) (SqT.of upd_same)
        · rw [show nmsAll [a1] = _ from (nms_kids (t := .one s' a1) (by simp [Sm.kids])).symm]
          exact few
        · simp only [List.mem_cons, List.not_mem_nil, or_false] at m
          subst m
          exact kid (by omega) nice.2 f1 d q
        · intro H' D s nD hD
          rw [show nmsAll [a1] = _ from (nms_kids (t := .one s' a1) (by simp [Sm.kids])).symm] at hD
          exact k H' D s nD hD
      | two s' a1 b1 =>
        obtain ⟨p, x, y, rfl, hq, hx, hy⟩ := pc_three hd
        have ns : s' ≠ "number" ∧ s' ≠ "of" := ⟨fun z => by have := nice.1; rw [z] at this; exact absurd this (by decide +kernel), fun z => by have := nice.1; rw [z] at this; exact absurd this (by decide +kernel)⟩
        have h1 : 1 + max a1.ht b1.ht ≤ n := hh
        have f1 : (a1.nms ++ b1.nms).length ≤ 1000 := few
        rw [List.length_append] at f1
        refine ⟨_, rfl, p, _, 0, _, rfl, rfl, hq, at0, rfl, _, rfl, if_no (s_ne ns.1) ?_⟩
        refine ⟨_, rfl, p, _, 0, _, rfl, rfl, hq, at0, rfl, _, rfl, if_no (s_ne ns.2) ?_⟩
        refine next_ret ?_
        refine lc2_nms (spA := spAl K n) (v := .ref p) (xs := [x, y]) (ts := [a1, b1]) (fun R r => ⟨_, rfl, _, rfl, p, _, rfl, hq, ?_, fun T nT => ?_⟩) (.cons hx (.cons hy .nil)) ?_ (fun m d q => ?_) ?_
        · rintro ⟨z, _⟩
          exact absurd z (by rw [cut1_ix (by simp)]; decide)
        · rw [cut_from1 (by show 1 ≤ List.length (_ :: _); rw [List.length_cons]; omega)]
          exact r T _ (same_upd nT) (SqT.of upd_same)
        · rw [show nmsAll [a1, b1] = _ from (nms_kids (t := .two s' a1 b1) (by simp [Sm.kids])).symm]
          exact few
        · simp only [List.mem_cons, List.not_mem_nil, or_false] at m
          rcases m with rfl | rfl
          · exact kid (by omega) nice.2.1 (by omega) d q
          · exact kid (by omega) nice.2.2 (by omega) d q
        · intro H' D s nD hD
          rw [show nmsAll [a1, b1] = _ from (nms_kids (t := .two s' a1 b1) (by simp [Sm.kids])).symm] at hD
          exact k H' D s nD hD
      | three s' a1 b1 c1 =>
        obtain ⟨p, x, y, z, rfl, hq, hx, hy, hz⟩ := pc_four hd
        have ns : s' ≠ "number" ∧ s' ≠ "of" := by rw [nice.1]; exact ⟨by decide +kernel, by decide +kernel⟩
        have h1 : 1 + max a1.ht (max b1.ht c1.ht) ≤ n := hh
        have f1 : (a1.nms ++ (b1.nms ++ c1.nms)).length ≤ 1000 := few
        rw [List.length_append, List.length_append] at f1
        refine ⟨_, rfl, p, _, 0, _, rfl, rfl, hq, at0, rfl, _, rfl, if_no (s_ne ns.1) ?_⟩
        refine ⟨_, rfl, p, _, 0, _, rfl, rfl, hq, at0, rfl, _, rfl, if_no (s_ne ns.2) ?_⟩
        refine next_ret ?_
        refine lc2_nms (spA := spAl K n) (v := .ref p) (xs := [x, y, z]) (ts := [a1, b1, c1]) (fun R r => ⟨_, rfl, _, rfl, p, _, rfl, hq, ?_, fun T nT => ?_⟩) (.cons hx (.cons hy (.cons hz .nil))) ?_ (fun m d q => ?_) ?_
        · rintro ⟨z, _⟩
          exact absurd z (by rw [cut1_ix (by simp)]; decide)
        · rw [cut_from1 (by show 1 ≤ List.length (_ :: _); rw [List.length_cons]; omega)]
          exact r T _ (same_upd nT) (SqT.of upd_same)
        · rw [show nmsAll [a1, b1, c1] = _ from (nms_kids (t := .three s' a1 b1 c1) (by simp [Sm.kids])).symm]
          exact few
        · simp only [List.mem_cons, List.not_mem_nil, or_false] at m
          rcases m with rfl | rfl | rfl
          · exact kid (by omega) nice.2.1 (by omega) d q
          · exact kid (by omega) nice.2.2.1 (by omega) d q
          · exact kid (by omega) nice.2.2.2 (by omega) d q
        · intro H' D s nD hD
          rw [show nmsAll [a1, b1, c1] = _ from (nms_kids (t := .three s' a1 b1 c1) (by simp [Sm.kids])).symm] at hD
          exact k H' D s nD hD
end
end Qb
end PySem
namespace PySem
namespace Qb
open PySem.W PySem.Calls PyProof.Rows L2
/-! # the law's answers -/
theorem same_at {H H1 : Hp} {L : Addr} {o : HO} (s : Same H H1) (n : H L = none) : Same H (L2.upd H1 L o) := fun a x h => by
  rw [L2.upd_ne (fun z => by rw [z, n] at h; cases h)]
  exact s a x h
def msE (mN mG mZ : List Value) : Er → List Value
  | .noI _ => mN
  | .great _ => mG
  | .zero _ => mZ
/-- which classes the errors are of -/
structure Kin (CS CT CN CG CZ : Addr) (mN mG mZ : List Value) : Prop where
  sh : ∀ e, (Value.ref (cl CN CG CZ e) :: msE mN mG mZ e).contains (.ref CS) = true
  it : ∀ e, (Value.ref (cl CN CG CZ e) :: msE mN mG mZ e).contains (.ref CT) = false
  no : ∀ e, (Value.ref (cl CN CG CZ e) :: msE mN mG mZ e).contains (.ref CN) = decide (e.k = "NoInteger")
  gr : ∀ e, (Value.ref (cl CN CG CZ e) :: msE mN mG mZ e).contains (.ref CG) = decide (e.k = "TooGreat")
  ze : ∀ e, (Value.ref (cl CN CG CZ e) :: msE mN mG mZ e).contains (.ref CZ) = decide (e.k = "DividedByZero")
def spLk (K : Frag) (CN CG CZ : Addr) : Sp := fun vs H Q _ => ∃ (e : Addr) (er : Er) (u : V), vs = [.ref e] ∧ ErrV H e (cl CN CG CZ er) u ∧ ∀ H', Same H H' → Q (.str er.k) H'
def spLkT (K : Frag) (CT : Addr) : Sp := fun vs H Q _ => ∃ (e : Addr) (u : V), vs = [.ref e] ∧ ErrV H e CT u ∧ ∀ H', Same H H' → Q (.str "InvalidTree") H'
section
variable {P : Program} {w : World} {K : Frag} {mg : Str → Option Value} {base : Heap}
abbrev sLk : Stmt := top 69
abbrev nLk : List Str := ["_law_caught", "_law_kinds"]
theorem scLk : FnScope nLk ["_law_caught"] (defScope sLk) := ⟨rfl, rfl, rfl, by decide +kernel, rfl, by decide +kernel, by decide +kernel⟩
theorem has_LkT {f : Addr} {fd : FuncData} {fI : Addr} (EGi : EG K fI) {CG : Addr} {mG : List Value} (TG : EC K mg fI "TooGreat" CG mG) {CN : Addr} {mN : List Value} (TN : EC K mg fI "NoInteger" CN mN) {CT : Addr} {mT : List Value} (TT : EC K mg fI "InvalidTree" CT mT) {CZ : Addr} {mZ : List Value} (TZ : EC K mg fI "DividedByZero" CZ mZ) (kTT : (Value.ref CT :: mT).contains (.ref CT) = true) (kTN : (Value.ref CT :: mT).contains (.ref CN) = false) (kTG : (Value.ref CT :: mT).contains (.ref CG) = false) (kTZ : (Value.ref CT :: mT).contains (.ref CZ) = false) (F : Fun K "_law_kind" "_law_kind" sLk f fd) (g : mg "_law_kind" = some (.ref f)) (B : Blt mg)  :
    Has P w K mg base 1 "_law_kind" ["_law_caught"] (spLkT K CT) := by
  refine has_of F g (F.binds (ps := ["_law_caught"]) fun _ _ _ _ _ _ us hl => match us, hl with | [_], _ => rfl) (F.ok scLk (fun vs H Q E h => ?_) (fun cdv A outer s H vs Q E hr h => ?_))
  · obtain ⟨e, u, rfl, _⟩ := h
    rfl
  · refine ⟨_, (pss_cons (ps_set (i := 1) scLk.nd rfl (.inl rfl) (pe_lst pa_nil))
        (pss_cons (ps_if (pt_val (pe_callB (call_isErrW EGi) (by rfl) B.isi (by decide +kernel) (pa_cons (pv 0) (pa_cons (pe_glob (v := .ref CT) (by rfl) TT.gC rfl) pa_nil)))) (pss_one (ps_expr (pe_bm PySem.F.plainAttrs_list PySem.F.slot_list_append PySem.F.type_list_append mt_append (pv 1) (pa_cons pe_str pa_nil)))) pss_nil)
        (pss_cons (ps_if (pt_val (pe_callB (call_isErrW EGi) (by rfl) B.isi (by decide +kernel) (pa_cons (pv 0) (pa_cons (pe_glob (v := .ref CN) (by rfl) TN.gC rfl) pa_nil)))) (pss_one (ps_expr (pe_bm PySem.F.plainAttrs_list PySem.F.slot_list_append PySem.F.type_list_append mt_append (pv 1) (pa_cons pe_str pa_nil)))) pss_nil)
        (pss_cons (ps_if (pt_val (pe_callB (call_isErrW EGi) (by rfl) B.isi (by decide +kernel) (pa_cons (pv 0) (pa_cons (pe_glob (v := .ref CG) (by rfl) TG.gC rfl) pa_nil)))) (pss_one (ps_expr (pe_bm PySem.F.plainAttrs_list PySem.F.slot_list_append PySem.F.type_list_append mt_append (pv 1) (pa_cons pe_str pa_nil)))) pss_nil)
        (pss_cons (ps_if (pt_val (pe_callB (call_isErrW EGi) (by rfl) B.isi (by decide +kernel) (pa_cons (pv 0) (pa_cons (pe_glob (v := .ref CZ) (by rfl) TZ.gC rfl) pa_nil)))) (pss_one (ps_expr (pe_bm PySem.F.plainAttrs_list PySem.F.slot_list_append PySem.F.type_list_append mt_append (pv 1) (pa_cons pe_str pa_nil)))) pss_nil)
        (pss_cons (ps_if (PW.pt (pw_or (pt_cmpR op_ne (pe_callB call_len_seq (by rfl) B.len PySem.boot_len (pa_cons (pv 1) pa_nil)) pe_int (nomark _)) (pw_or1 (pt_not (pt_val (pe_callB (call_isErrW EGi) (by rfl) B.isi (by decide +kernel) (pa_cons (pv 0) (pa_cons (pe_bltn (v := .ty "ValueError") (by rfl) B.ve (by decide +kernel) rfl) pa_nil)))))))) (pss_one (ps_ret pe_str)) pss_nil)
        (pss_one (ps_ret (pe_ix ix_list (pv 1) pe_int (fun _ _ => rfl)))))))))), ?_⟩
    obtain ⟨e, u, rfl, he, k⟩ := h
    have k1 : kitOne K (.ref CT) (.ref CT) = some true := by rw [TT.one TT, kTT]
    have k2 : kitOne K (.ref CT) (.ref CN) = some false := by rw [TT.one TN, kTN]
    have k3 : kitOne K (.ref CT) (.ref CG) = some false := by rw [TT.one TG, kTG]
    have k4 : kitOne K (.ref CT) (.ref CZ) = some false := by rw [TT.one TZ, kTZ]
    refine ⟨(by decide : 0 ≤ sizeLine), fun L nL => ?_⟩
    have s1 := same_upd (o := .lst []) nL
    have hL : (L2.upd H L (.lst [])) L = some (.lst []) := upd_same
    have he0 := he
    replace he := he.same s1
    generalize L2.upd H L (.lst []) = H1 at s1 hL he ⊢
    refine ⟨_, rfl, e, _, u, .ref CT, .ref CT, true, _, _, rfl, .own CT, TT, he, k1, _, rfl, if_yes rfl ?_⟩
    refine ⟨_, rfl, .inl ⟨rfl, _, SqL.of hL⟩, L, [], _, rfl, rfl, hL, (by decide), ?_⟩
    have s2 := same_at (o := .lst ([] ++ [.str "InvalidTree"])) s1 nL
    have hL2 : (L2.upd H1 L (.lst ([] ++ [.str "InvalidTree"]))) L = some (.lst [.str "InvalidTree"]) := upd_same
    replace he : ErrV (L2.upd H1 L (.lst ([] ++ [.str "InvalidTree"]))) e _ u := he0.same s2
    generalize L2.upd H1 L (.lst ([] ++ [.str "InvalidTree"])) = H2 at s2 hL2 he ⊢
    refine ⟨_, rfl, e, _, u, .ref CN, .ref CN, false, _, _, rfl, .own CN, TT, he, k2, _, rfl, if_no rfl ?_⟩
    refine ⟨_, rfl, e, _, u, .ref CG, .ref CG, false, _, _, rfl, .own CG, TT, he, k3, _, rfl, if_no rfl ?_⟩
    refine ⟨_, rfl, e, _, u, .ref CZ, .ref CZ, false, _, _, rfl, .own CZ, TT, he, k4, _, rfl, if_no rfl ?_⟩
    refine ⟨_, rfl, L, _, rfl, .inl (SqL.of hL2), rfl, _, rfl, if_no rfl ?_⟩
    refine ⟨_, rfl, e, _, u, .ty "ValueError", .type "ValueError", true, _, _, rfl, .ty _, TT, he, TT.oneT, _, rfl, if_no rfl ?_⟩
    exact ⟨_, rfl, L, _, 0, _, rfl, rfl, SqL.of hL2, at0, k _ s2⟩
end
end Qb
end PySem
namespace PySem
namespace Qb
open PySem.W PySem.Calls PyProof.Rows L2
/-! # steady_number -/
theorem takes_no {X : Cx} : Takes X (fun _ _ _ _ => False) := by
  rintro u z ⟨e, B, sI, qs, σ1, H1, cls, d, rfl, J0, inB, ups, air, ne, sameOs, gens, ofC, wish⟩
theorem wok_nil : ∀ {t : Sm}, t.nms = [] → t.wok
  | .num _, _ => trivial
  | .of _, h => by cases h
  | .one _ a, h => wok_nil (t := a) h
  | .two _ a b, h => by
    obtain ⟨h1, h2⟩ := List.append_eq_nil_iff.mp (show a.nms ++ b.nms = [] from h)
    exact ⟨wok_nil h1, wok_nil h2⟩
  | .three _ a b c, h => by
    obtain ⟨h1, h2⟩ := List.append_eq_nil_iff.mp (show a.nms ++ (b.nms ++ c.nms) = [] from h)
    obtain ⟨h2, h3⟩ := List.append_eq_nil_iff.mp h2
    exact ⟨wok_nil h1, wok_nil h2, wok_nil h3⟩
theorem strOk_lt {x : Str} (h : ∀ c ∈ cs x, c < 1114112) : PyData.strOk x = true := by
  unfold PyData.strOk
  rw [Array.all_eq_true_iff_forall_mem]
  intro c m
  exact decide_eq_true (h c (by simpa [cs] using m))
theorem nm_strOk {w : Str} (h : (Sm.of w).nice) : PyData.strOk w = true := strOk_lt fun c m => by
  have nl : ∀ c ∈ namC, c < 1114112 := by decide +kernel
  rcases h with h | ⟨_, h | h | ⟨_, h, _⟩⟩
  · obtain ⟨a, r, e, ma, mr⟩ := nm_cons h
    rw [e] at m
    rcases List.mem_cons.mp m with rfl | m
    · exact nl c (sta_nam c ma)
    · exact nl c (mr c m)
  · rw [h] at m
    rw [List.mem_singleton.mp m]; decide
  · rw [h] at m
    rw [List.mem_singleton.mp m]; decide
  · exact (by decide : ∀ c ∈ digC, c < 1114112) c (h c m)
theorem nms_ok : ∀ {t : Sm}, t.nice → ∀ w ∈ t.nms, PyData.strOk w = true
  | .num _, _, w, m => by cases m
  | .of x, h, w, m => by rw [List.mem_singleton.mp m]; exact nm_strOk h
  | .one _ a, h, w, m => nms_ok (t := a) h.2 w m
  | .two _ a b, h, w, m => by
    rcases List.mem_append.mp (show w ∈ a.nms ++ b.nms from m) with m | m
    · exact nms_ok h.2.1 w m
    · exact nms_ok h.2.2 w m
  | .three _ a b c, h, w, m => by
    rcases List.mem_append.mp (show w ∈ a.nms ++ (b.nms ++ c.nms) from m) with m | m
    · exact nms_ok h.2.1 w m
    · rcases List.mem_append.mp m with m | m
      · exact nms_ok h.2.2.1 w m
      · exact nms_ok h.2.2.2 w m
theorem dpStrs {K : Frag} {H : Hp} : ∀ l : List Str, DpAll K H (l.map V.str) (l.map PyData.str)
  | [] => .nil
  | c :: l => .cons (.str _) (dpStrs l)
theorem sh_strs {l : List Str} (h : ∀ x ∈ l, PyData.strOk x = true) : SeqAt.shaped (.list (l.map PyData.str)) = true :=
  sh_ok (n := 1) (sh_lst (n := 0) fun d md => by
    obtain ⟨c, mc, rfl⟩ := List.mem_map.mp md
    exact sh_str (h c mc)) (by decide)
def spSn (K : Frag) : Sp := fun vs H Q _ => ∃ (v : V) (t : Sm), vs = [v] ∧ Dp K H v t.d ∧ t.ht ≤ 14 ∧ t.nice ∧ t.nms.length ≤ 1000 ∧ ∀ H', Same H H' → Q (optV (sted t)) H'
section
variable {P : Program} {w : World} {K : Frag} {mg : Str → Option Value} {base : Heap}
abbrev sSn : Stmt := top 40
abbrev nSn : List Str := ["tree"]
theorem scSn : FnScope nSn ["tree"] (defScope sSn) := ⟨rfl, rfl, rfl, by decide +kernel, rfl, by decide +kernel, by decide +kernel⟩
theorem has_Sn {f : Addr} {fd : FuncData} {fI : Addr} (EGi : EG K fI) {CG : Addr} {mG : List Value} (TG : EC K mg fI "TooGreat" CG mG) {CN : Addr} {mN : List Value} (TN : EC K mg fI "NoInteger" CN mN) {CT : Addr} {CZ : Addr} {mZ : List Value} (TZ : EC K mg fI "DividedByZero" CZ mZ) {CS : Addr} {mS : List Value} (TS : EC K mg fI "ShellError" CS mS) (kin : Kin CS CT CN CG CZ mN mG mZ) (F : Fun K "steady_number" "steady_number" sSn f fd) (g : mg "steady_number" = some (.ref f)) (B : Blt mg) (hAl : Has P w K mg base 16 "all_names" ["tree"] (spAl K 15)) (hNo : HasX P w K mg base 34 "number_of" ["tree", "names", "arguments"] (spNo K CN CG CZ 15)) :
    Has P w K mg base 35 "steady_number" ["tree"] (spSn K) := by
  obtain ⟨fAl, dAl, gAl, kAl, bAl, GAl⟩ := hAl
  obtain ⟨fNo, dNo, gNo, kNo, bNo, GNo⟩ := hNo
  refine has_of F g (F.binds (ps := ["tree"]) fun _ _ _ _ _ _ us hl => match us, hl with | [_], _ => rfl) (F.ok scSn (fun vs H Q E h => ?_) (fun cdv A outer s H vs Q E hr h => ?_))
  · obtain ⟨v, t, rfl, _⟩ := h
    rfl
  · refine ⟨_, (pss_cons (ps_if (pt_cmpR (op_neD hr.units) (pe_call GAl (hr.mono (by decide)) rfl gAl kAl bAl .nil pass0 (pa_cons (pv 0) pa_nil)) (pe_lst pa_nil) (nomark _)) (pss_one (ps_ret pe_non)) pss_nil)
        (pss_one (ps_try_only (Wout := fun _ _ _ _ => False) rfl rfl ⟨rfl, by decide, .inl TS.gC⟩ takes_no
          (fun W pn xe tk _ => (pss_one (ps_ret (pe_callS GNo (hr.mono (by decide)) rfl gNo kNo bNo (fun σ => passAt tk σ) (by exact (pa_cons (pv 0) (pa_cons pe_dnewK (pa_cons (pe_lst pa_nil) pa_nil))))))))
          (fun a oe cls d pn _ _ => (pss_one (ps_ret pe_non)))))), ?_⟩
    obtain ⟨v, t, rfl, hd, hh, nice, few, k⟩ := h
    refine ⟨_, rfl, v, t, rfl, hd, hh, nice, few, fun H1 D s1 nD hD => ?_⟩
    refine ⟨(by decide : 0 ≤ sizeLine), fun T nT => ?_⟩
    have neT : D ≠ T := fun z => by rw [← z, hD] at nT; cases nT
    have s2 := s1.trans (same_upd (o := .lst []) nT)
    have hD2 : (L2.upd H1 T (.lst [])) D = some (.lst (t.nms.map V.str)) := by rw [upd_ne neT]; exact hD
    have hT2 : (L2.upd H1 T (.lst [])) T = some (.lst []) := upd_same
    generalize L2.upd H1 T (.lst []) = H2 at s2 hD2 hT2 ⊢
    refine ⟨.list (t.nms.map PyData.str), .list [], .lst (SqL.of hD2) (dpStrs _), .lst (SqL.of hT2) .nil, sh_strs (nms_ok nice), by decide, _, rfl, ?_⟩
    rw [eqv_nil]
    have em : (t.nms.map PyData.str).isEmpty = decide (t.nms = []) := by cases t.nms <;> rfl
    rw [em]
    have es : sted t = if t.nms = [] then (vl ev0 t).opt else none := rfl
    by_cases e : t.nms = []
    · rw [decide_eq_true e]
      rw [if_pos e] at es
      refine if_no rfl ?_
      refine ⟨_, rfl, fun b nb => ?_⟩
      have s3 := s2.trans (same_upd (o := .dK []) nb)
      have hb : (L2.upd H2 b (.dK [])) b = some (.dK (bkV [])) := upd_same
      generalize L2.upd H2 b (.dK []) = H3 at s3 hb ⊢
      refine ⟨(by decide : 0 ≤ sizeLine), fun g' ng => ?_⟩
      have q4 := same_upd (o := .lst []) ng
      have s4 := s3.trans q4
      have hg : (L2.upd H3 g' (.lst [])) g' = some (.lst []) := upd_same
      have hb := q4 _ _ hb
      generalize L2.upd H3 g' (.lst []) = H4 at s4 hb hg ⊢
      have ev : EvOk K H4 b g' ev0 := ⟨⟨[], hb, by simp, fun _ => rfl⟩, SqL.of hg, by simp [ev0], by show 0 ≤ 1000; decide⟩
      refine ⟨v, t, b, g', ev0, rfl, dp_same s4 hd, hh, Nat.le_refl _, nice, wok_nil e, ev, fun H5 s5 => ⟨fun i ei => ?_, fun er ee u hu d nd => ?_⟩⟩
      · have z := k H5 (s4.trans s5)
        rw [es, ei] at z
        exact z
      · obtain ⟨x, TE⟩ : ∃ x, EC K mg fI x (cl CN CG CZ er) (msE mN mG mZ er) := by
          cases er with
          | noI _ => exact ⟨_, TN⟩
          | great _ => exact ⟨_, TG⟩
          | zero _ => exact ⟨_, TZ⟩
        refine ⟨true, TE.takes TS (kin.sh er), fun _ a na => ?_, fun z => by cases z⟩
        have z := k _ (same_upd2 (o := .xd [(("value" : Str), u)]) (s4.trans s5) ((s4.trans s5).free nd))
        rw [es, ee] at z
        exact z
    · rw [decide_eq_false e]
      rw [if_neg e] at es
      refine if_yes rfl ?_
      have z := k H2 s2
      rw [es] at z
      exact z
end
end Qb
end PySem
namespace PySem
namespace Qb
open PySem.W PySem.Calls PyProof.Rows L2
/-! # is_steady, folded -/
def spSy (K : Frag) (CT : Addr) : Sp := fun vs H Q E => ∃ (v : V) (t : Sm), vs = [v] ∧ Dp K H v t.d ∧ t.ht ≤ 14 ∧ t.fine ∧ t.nms.length ≤ 1000 ∧ (t.ok = true → ∀ H', Same H H' → Q (.bl (sted t).isSome) H') ∧ (t.ok = false → ∀ H' u, Same H H' → Dp K H' u t.d → RaisesV E CT u H')
section
variable {P : Program} {w : World} {K : Frag} {mg : Str → Option Value} {base : Heap}
abbrev sSy : Stmt := top 28
abbrev nSy : List Str := ["tree"]
theorem scSy : FnScope nSy ["tree"] (defScope sSy) := ⟨rfl, rfl, rfl, by decide +kernel, rfl, by decide +kernel, by decide +kernel⟩
theorem has_Sy {CT : Addr} {f : Addr} {fd : FuncData}  (F : Fun K "is_steady" "is_steady" sSy f fd) (g : mg "is_steady" = some (.ref f)) (B : Blt mg) (hCk : HasX P w K mg base 19 "check_sum" ["tree"] (spCk K CT)) (hSn : Has P w K mg base 35 "steady_number" ["tree"] (spSn K)) :
    HasX P w K mg base 36 "is_steady" ["tree"] (spSy K CT) := by
  obtain ⟨fCk, dCk, gCk, kCk, bCk, GCk⟩ := hCk
  obtain ⟨fSn, dSn, gSn, kSn, bSn, GSn⟩ := hSn
  refine hasX_of F g (F.binds (ps := ["tree"]) fun _ _ _ _ _ _ us hl => match us, hl with | [_], _ => rfl) (F.okX scSy (fun vs H Q E h => ?_) (fun cdv A outer s H vs Q E hr h => ?_))
  · obtain ⟨v, t, rfl, _⟩ := h
    rfl
  · refine ⟨_, (pss_cons (ps_expr (pe_callS GCk (hr.mono (by decide)) rfl gCk kCk bCk (fun σ => passAt (takes_of rfl rfl rfl rfl) σ) (by exact (pa_cons (pv 0) pa_nil))))
        (pss_one (ps_ret (pe_cmpR op_notN (pe_call GSn hr rfl gSn kSn bSn .nil pass0 (pa_cons (pv 0) pa_nil)) pe_non (nomark _))))), ?_⟩
    obtain ⟨v, t, rfl, hd, hh, hf, few, k, kE⟩ := h
    refine ⟨_, rfl, v, t, rfl, hd, hh, hf, fun e H1 s1 => ?_, fun e H1 u s1 hu => kE e H1 u s1 hu⟩
    refine ⟨_, rfl, v, t, rfl, dp_same s1 hd, hh, ok_nice e, few, fun H2 s2 => ⟨rfl, ?_⟩⟩
    have z := k e H2 (s1.trans s2)
    cases q : sted t with
    | none => rw [q] at z; exact z
    | some i => rw [q] at z; exact z
end
end Qb
end PySem
namespace PySem
namespace Qb
open PySem.W PySem.Calls PyProof.Rows L2
/-! # equal data, by the law's own comparison -/
def spSm (K : Frag) : Nat → Sp
  | 0 => fun _ _ _ _ => False
  | n + 1 => fun vs H Q _ => ∃ (v u : V) (d : PyData), vs = [v, u] ∧ Dp K H v d ∧ Dp K H u d ∧ Pl n d ∧ ∀ H', Same H H' → Q (.bl true) H'
theorem sq_same {K : Frag} {H H' : Hp} {a : Addr} {xs : List V} (s : Same H H') (h : SqL K H a xs ∨ SqT K H a xs) : SqL K H' a xs ∨ SqT K H' a xs := by
  rcases h with h | h
  · exact .inl (s.seq h)
  · exact .inr (sqT_same s h)
section
variable {P : Program} {w : World} {K : Frag} {mg : Str → Option Value} {base : Heap}
abbrev sSm : Stmt := top 61
abbrev nSm : List Str := ["_law_found", "_law_due", "_law_k"]
theorem scSm : FnScope nSm ["_law_found", "_law_due"] (defScope sSm) := ⟨rfl, rfl, rfl, by decide +kernel, rfl, by decide +kernel, by decide +kernel⟩
theorem ok_Sm {f : Addr} {fd : FuncData} (F : Fun K "_law_same" "_law_same" sSm f fd) (g : mg "_law_same" = some (.ref f)) (b : Binds K fd ["_law_found", "_law_due"] []) (B : Blt mg) : ∀ n, FnOk P w K mg base CX0 (n + 1) f fd ["_law_found", "_law_due"] (spSm K n)
  | 0 => F.ok scSm (fun vs H Q E h => h.elim) (fun cdv A outer s H vs Q E hr h => h.elim)
  | n + 1 => by
    have GSm := ok_Sm F g b B n
    refine F.ok scSm (fun vs H Q E h => ?_) (fun cdv A outer s H vs Q E hr h => ?_)
    · obtain ⟨v, u, d, rfl, _⟩ := h
      rfl
    · refine ⟨_, (pss_cons (ps_if (pt_val (pe_callB call_isiT (by rfl) B.isi (by decide +kernel) (pa_cons (pv 1) (pa_cons (pe_tup (pa_cons (pe_bltn (v := .ty "list") (by rfl) B.list (by decide +kernel) rfl) (pa_cons (pe_bltn (v := .ty "tuple") (by rfl) B.tuple (by decide +kernel) rfl) pa_nil))) pa_nil)))) (pss_cons (ps_if (PW.pt (pw_or (pt_cmpR op_ne (pe_callB call_isi (by rfl) B.isi (by decide +kernel) (pa_cons (pv 1) (pa_cons (pe_bltn (v := .ty "list") (by rfl) B.list (by decide +kernel) rfl) pa_nil))) (pe_callB call_isi (by rfl) B.isi (by decide +kernel) (pa_cons (pv 0) (pa_cons (pe_bltn (v := .ty "list") (by rfl) B.list (by decide +kernel) rfl) pa_nil))) (nomark _)) (pw_or1 (pt_cmpR op_ne (pe_callB call_isi (by rfl) B.isi (by decide +kernel) (pa_cons (pv 1) (pa_cons (pe_bltn (v := .ty "tuple") (by rfl) B.tuple (by decide +kernel) rfl) pa_nil))) (pe_callB call_isi (by rfl) B.isi (by decide +kernel) (pa_cons (pv 0) (pa_cons (pe_bltn (v := .ty "tuple") (by rfl) B.tuple (by decide +kernel) rfl) pa_nil))) (nomark _))))) (pss_one (ps_ret pe_bl)) pss_nil)
          (pss_one (ps_ret (pe_and (pe_cmpR op_eq (pe_callB call_len_seq (by rfl) B.len PySem.boot_len (pa_cons (pv 0) pa_nil)) (pe_callB call_len_seq (by rfl) B.len PySem.boot_len (pa_cons (pv 1) pa_nil)) (nomark _)) (pe_one (pe_callB (cr_all rfl) (by rfl) B.all (by decide +kernel) (pa_cons (pe_lc (te := tCall (spSm K n) [] E0 (tCons (tOp (rIx K) (tVar 0) (tVar 2)) (tCons (tOp (rIx K) (tVar 1) (tVar 2)) tNil))) (own := [("_law_k", 2)]) (g := gName 2) (tt := tYes) rfl scSm.nd (pi_range1 (by rfl) B.range (pa_cons (pe_callB call_len_seq (by rfl) B.len PySem.boot_len (pa_cons (pv 1) pa_nil)) pa_nil)) (blkOk_by (N := nSm) (sc := defScope sSm) (by decide +kernel)) (fun _ _ _ _ _ => pg_name (i := 2) scSm.nd rfl (.inl rfl)) (fun _ _ _ _ _ => pts_nil) (fun _ _ _ _ _ => (pe_call GSm hr rfl g F.kp b .nil pass0 (pa_cons (pe_ix ix_seq (pv 0) (pv 2) (fun _ _ => rfl)) (pa_cons (pe_ix ix_seq (pv 1) (pv 2) (fun _ _ => rfl)) pa_nil))))) pa_nil))))))) pss_nil)
        (pss_cons (ps_if (pt_cmpR op_isN (pv 1) pe_non (nomark _)) (pss_one (ps_ret (pe_cmpR op_isN (pv 0) pe_non (nomark _)))) pss_nil)
        (pss_cons (ps_if (pt_val (pe_callB call_isi (by rfl) B.isi (by decide +kernel) (pa_cons (pv 1) (pa_cons (pe_bltn (v := .ty "int") (by rfl) B.int (by decide +kernel) rfl) pa_nil)))) (pss_one (ps_ret (pe_and (pe_callB call_isi (by rfl) B.isi (by decide +kernel) (pa_cons (pv 0) (pa_cons (pe_bltn (v := .ty "int") (by rfl) B.int (by decide +kernel) rfl) pa_nil))) (pe_and (pe_cmpR op_eq (pe_callB call_isi (by rfl) B.isi (by decide +kernel) (pa_cons (pv 0) (pa_cons (pe_bltn (v := .ty "bool") (by rfl) B.bool (by decide +kernel) rfl) pa_nil))) (pe_callB call_isi (by rfl) B.isi (by decide +kernel) (pa_cons (pv 1) (pa_cons (pe_bltn (v := .ty "bool") (by rfl) B.bool (by decide +kernel) rfl) pa_nil))) (nomark _)) (pe_one (pe_cmpR op_eq (pv 0) (pv 1) (nomark _))))))) pss_nil)
        (pss_one (ps_ret (pe_and (pe_callB call_isi (by rfl) B.isi (by decide +kernel) (pa_cons (pv 0) (pa_cons (pe_bltn (v := .ty "str") (by rfl) B.str (by decide +kernel) rfl) pa_nil))) (pe_one (pe_cmpR op_eq (pv 0) (pv 1) (nomark _))))))))), ?_⟩
      obtain ⟨v, u, d, rfl, hv, hu, hp, k⟩ := h
      rcases (show Pl0 d ∨ ∃ m ds, n = m + 1 ∧ (d = .list ds ∨ d = .tuple ds) ∧ ds.length ≤ 1000 ∧ ∀ e ∈ ds, Pl m e from by
        cases n with
        | zero => exact .inl hp
        | succ m => rcases hp with h | ⟨ds, h⟩
                    · exact .inl h
                    · exact .inr ⟨m, ds, rfl, h⟩) with h0 | ⟨m, ds, rfl, h1, h2, h3⟩
      · rcases h0 with ⟨x, rfl⟩ | ⟨x, rfl⟩ | ⟨x, rfl⟩ | rfl
        · cases hv
          cases hu
          refine ⟨_, rfl, (by decide : 2 ≤ sizeLine), fun T nT => ⟨.str x, T, _, .type "str", [.type "list", .type "tuple"], false, rfl, upd_same, .cons (.ty _) (.cons (.ty _) .nil), .base (.str x), kan (kit_ty (by decide +kernel)) (kan (kit_ty (by decide +kernel)) kitAny_nil), _, rfl, if_no rfl ?_⟩⟩
          refine ⟨_, rfl, rfl, _, rfl, if_no (by simp) ?_⟩
          refine ⟨_, rfl, .str x, .ty "int", .type "str", .type "int", false, rfl, .ty _, .base (.str x), kit_ty (by decide +kernel), _, rfl, if_no rfl ?_⟩
          refine ⟨_, rfl, .str x, .ty "str", .type "str", .type "str", true, rfl, .ty _, .base (.str x), kit_ty (by decide +kernel), _, rfl, if_yes rfl ⟨_, rfl, _, rfl, rfl, ?_⟩⟩
          rw [decide_eq_true rfl]
          exact k _ (same_upd nT)
        · cases hv
          cases hu
          refine ⟨_, rfl, (by decide : 2 ≤ sizeLine), fun T nT => ⟨.bl x, T, _, .type "bool", [.type "list", .type "tuple"], false, rfl, upd_same, .cons (.ty _) (.cons (.ty _) .nil), .base (.bl x), kan (kit_ty (by decide +kernel)) (kan (kit_ty (by decide +kernel)) kitAny_nil), _, rfl, if_no rfl ?_⟩⟩
          refine ⟨_, rfl, rfl, _, rfl, if_no (by simp) ?_⟩
          refine ⟨_, rfl, .bl x, .ty "int", .type "bool", .type "int", true, rfl, .ty _, .base (.bl x), kit_ty (by decide +kernel), _, rfl, if_yes rfl ?_⟩
          refine ⟨_, rfl, .bl x, .ty "int", .type "bool", .type "int", true, rfl, .ty _, .base (.bl x), kit_ty (by decide +kernel), _, rfl, if_yes rfl ?_⟩
          refine ⟨_, rfl, .bl x, .ty "bool", .type "bool", .type "bool", true, rfl, .ty _, .base (.bl x), kit_ty (by decide +kernel), _, rfl, .bl x, .ty "bool", .type "bool", .type "bool", true, rfl, .ty _, .base (.bl x), kit_ty (by decide +kernel), rfl, _, rfl, if_yes rfl ⟨_, rfl, _, rfl, rfl, ?_⟩⟩
          rw [decide_eq_true rfl]
          exact k _ (same_upd nT)
        · cases hv
          cases hu
          refine ⟨_, rfl, (by decide : 2 ≤ sizeLine), fun T nT => ⟨.int x, T, _, .type "int", [.type "list", .type "tuple"], false, rfl, upd_same, .cons (.ty _) (.cons (.ty _) .nil), .base (.int x), kan (kit_ty (by decide +kernel)) (kan (kit_ty (by decide +kernel)) kitAny_nil), _, rfl, if_no rfl ?_⟩⟩
          refine ⟨_, rfl, rfl, _, rfl, if_no (by simp) ?_⟩
          refine ⟨_, rfl, .int x, .ty "int", .type "int", .type "int", true, rfl, .ty _, .base (.int x), kit_ty (by decide +kernel), _, rfl, if_yes rfl ?_⟩
          refine ⟨_, rfl, .int x, .ty "int", .type "int", .type "int", true, rfl, .ty _, .base (.int x), kit_ty (by decide +kernel), _, rfl, if_yes rfl ?_⟩
          refine ⟨_, rfl, .int x, .ty "bool", .type "int", .type "bool", false, rfl, .ty _, .base (.int x), kit_ty (by decide +kernel), _, rfl, .int x, .ty "bool", .type "int", .type "bool", false, rfl, .ty _, .base (.int x), kit_ty (by decide +kernel), rfl, _, rfl, if_yes rfl ⟨_, rfl, _, rfl, rfl, ?_⟩⟩
          rw [decide_eq_true rfl]
          exact k _ (same_upd nT)
        · cases hv
          cases hu
          refine ⟨_, rfl, (by decide : 2 ≤ sizeLine), fun T nT => ⟨.non, T, _, .type "NoneType", [.type "list", .type "tuple"], false, rfl, upd_same, .cons (.ty _) (.cons (.ty _) .nil), .base .non, kan (kit_ty (by decide +kernel)) (kan (kit_ty (by decide +kernel)) kitAny_nil), _, rfl, if_no rfl ?_⟩⟩
          refine ⟨_, rfl, rfl, _, rfl, if_yes (by simp) ⟨_, rfl, rfl, ?_⟩⟩
          rw [decide_eq_true rfl]
          exact k _ (same_upd nT)
      · rcases h1 with rfl | rfl
        · obtain ⟨a, xs, rfl, hqa, alla⟩ := dp_lst hv
          obtain ⟨c, ys, rfl, hqc, allc⟩ := dp_lst hu
          have lx := dpLen alla
          have ly := dpLen allc
          refine ⟨_, rfl, (by decide : 2 ≤ sizeLine), fun T nT => ?_⟩
          have s1 := same_upd (o := .tup [.ty "list", .ty "tuple"]) nT
          have hqa := s1.seq hqa
          have hqc := s1.seq hqc
          refine ⟨.ref c, T, _, .type "list", [.type "list", .type "tuple"], true, rfl, upd_same, .cons (.ty _) (.cons (.ty _) .nil), ty_lst hqc, kay (kit_ty (by decide +kernel)), _, rfl, if_yes rfl ?_⟩
          refine ⟨_, rfl, .ref c, .ty "list", .type "list", .type "list", true, rfl, .ty _, ty_lst hqc, kit_ty (by decide +kernel), _, rfl, .ref a, .ty "list", .type "list", .type "list", true, rfl, .ty _, ty_lst hqa, kit_ty (by decide +kernel), rfl, _, rfl, if_no (by simp) ?_⟩
          refine ⟨_, rfl, .ref c, .ty "tuple", .type "list", .type "tuple", false, rfl, .ty _, ty_lst hqc, kit_ty (by decide +kernel), _, rfl, .ref a, .ty "tuple", .type "list", .type "tuple", false, rfl, .ty _, ty_lst hqa, kit_ty (by decide +kernel), rfl, _, rfl, if_no (by simp) ?_⟩
          refine ⟨_, rfl, a, xs, rfl, .inl hqa, _, rfl, c, ys, rfl, .inl hqc, rfl, _, rfl, if_yes (by rw [lx, ly]; simp) ?_⟩
          refine ⟨_, rfl, c, ys, rfl, .inl hqc, _, rfl, by omega, by omega, fun D hD => ?_⟩
          refine lc_it (walk_range (lo := 0) (n := ys.length)) (fun i H' => Same (L2.upd H T (.tup [.ty "list", .ty "tuple"])) H' ∧ H' D = some (.lst ((List.replicate i true).map V.bl))) ⟨same_upd hD, upd_same⟩ (fun _ _ _ _ => trivial) (fun i x H' H2 hi e y => ?_) (fun H' e => ?_)
          · obtain ⟨s2, hDt⟩ := e
            obtain ⟨rfl, rfl⟩ := y
            obtain ⟨d, hdi⟩ : ∃ d, ds[i]? = some d := ⟨_, List.getElem?_eq_getElem (by omega)⟩
            obtain ⟨x1, hx1, dx1⟩ := dpAt alla hdi
            obtain ⟨x2, hx2, dx2⟩ := dpAt allc hdi
            refine ⟨rfl, _, rfl, _, rfl, .inl ⟨a, xs, _, x1, rfl, rfl, s2.seq hqa, by rw [Int.zero_add]; exact atI_nat hx1, _, rfl, _, rfl, .inl ⟨c, ys, _, x2, rfl, rfl, s2.seq hqc, by rw [Int.zero_add]; exact atI_nat hx2, x1, x2, d, rfl, dp_same (s1.trans s2) dx1, dp_same (s1.trans s2) dx2, h3 d (List.mem_of_getElem? hdi), fun H3 s3 => ⟨_, s3 _ _ hDt, ?_, same_upd2 (s2.trans s3) hD, ?_⟩⟩⟩⟩
            · rw [List.length_map, List.length_replicate, sizeLine_eq]
              omega
            · rw [upd_same, List.replicate_succ', List.map_append]
              rfl
          · obtain ⟨s2, hDt⟩ := e
            refine ⟨D, _, rfl, SqL.of hDt, ?_⟩
            rw [show (List.replicate ys.length true).all id = true by rw [List.all_eq_true]; intro x m; exact List.eq_of_mem_replicate m]
            exact k _ (s1.trans s2)
        · obtain ⟨a, xs, rfl, hqa, alla⟩ := dp_tup hv
          obtain ⟨c, ys, rfl, hqc, allc⟩ := dp_tup hu
          have lx := dpLen alla
          have ly := dpLen allc
          refine ⟨_, rfl, (by decide : 2 ≤ sizeLine), fun T nT => ?_⟩
          have s1 := same_upd (o := .tup [.ty "list", .ty "tuple"]) nT
          have hqa := sqT_same s1 hqa
          have hqc := sqT_same s1 hqc
          refine ⟨.ref c, T, _, .type "tuple", [.type "list", .type "tuple"], true, rfl, upd_same, .cons (.ty _) (.cons (.ty _) .nil), ty_tup hqc, kan (kit_ty (by decide +kernel)) (kay (kit_ty (by decide +kernel))), _, rfl, if_yes rfl ?_⟩
          refine ⟨_, rfl, .ref c, .ty "list", .type "tuple", .type "list", false, rfl, .ty _, ty_tup hqc, kit_ty (by decide +kernel), _, rfl, .ref a, .ty "list", .type "tuple", .type "list", false, rfl, .ty _, ty_tup hqa, kit_ty (by decide +kernel), rfl, _, rfl, if_no (by simp) ?_⟩
          refine ⟨_, rfl, .ref c, .ty "tuple", .type "tuple", .type "tuple", true, rfl, .ty _, ty_tup hqc, kit_ty (by decide +kernel), _, rfl, .ref a, .ty "tuple", .type "tuple", .type "tuple", true, rfl, .ty _, ty_tup hqa, kit_ty (by decide +kernel), rfl, _, rfl, if_no (by simp) ?_⟩
          refine ⟨_, rfl, a, xs, rfl, .inr hqa, _, rfl, c, ys, rfl, .inr hqc, rfl, _, rfl, if_yes (by rw [lx, ly]; simp) ?_⟩
          refine ⟨_, rfl, c, ys, rfl, .inr hqc, _, rfl, by omega, by omega, fun D hD => ?_⟩
          refine lc_it (walk_range (lo := 0) (n := ys.length)) (fun i H' => Same (L2.upd H T (.tup [.ty "list", .ty "tuple"])) H' ∧ H' D = some (.lst ((List.replicate i true).map V.bl))) ⟨same_upd hD, upd_same⟩ (fun _ _ _ _ => trivial) (fun i x H' H2 hi e y => ?_) (fun H' e => ?_)
          · obtain ⟨s2, hDt⟩ := e
            obtain ⟨rfl, rfl⟩ := y
            obtain ⟨d, hdi⟩ : ∃ d, ds[i]? = some d := ⟨_, List.getElem?_eq_getElem (by omega)⟩
            obtain ⟨x1, hx1, dx1⟩ := dpAt alla hdi
            obtain ⟨x2, hx2, dx2⟩ := dpAt allc hdi
            refine ⟨rfl, _, rfl, _, rfl, .inr (.inl ⟨a, xs, _, x1, rfl, rfl, sqT_same s2 hqa, by rw [Int.zero_add]; exact atI_nat hx1, _, rfl, _, rfl, .inr (.inl ⟨c, ys, _, x2, rfl, rfl, sqT_same s2 hqc, by rw [Int.zero_add]; exact atI_nat hx2, x1, x2, d, rfl, dp_same (s1.trans s2) dx1, dp_same (s1.trans s2) dx2, h3 d (List.mem_of_getElem? hdi), fun H3 s3 => ⟨_, s3 _ _ hDt, ?_, same_upd2 (s2.trans s3) hD, ?_⟩⟩)⟩)⟩
            · rw [List.length_map, List.length_replicate, sizeLine_eq]
              omega
            · rw [upd_same, List.replicate_succ', List.map_append]
              rfl
          · obtain ⟨s2, hDt⟩ := e
            refine ⟨D, _, rfl, SqL.of hDt, ?_⟩
            rw [show (List.replicate ys.length true).all id = true by rw [List.all_eq_true]; intro x m; exact List.eq_of_mem_replicate m]
            exact k _ (s1.trans s2)
end
end Qb
end PySem
namespace PySem
namespace Qb
open PySem.W PySem.Calls PyProof.Rows L2
/-! # what the law draws -/
def Pu (H : Hp) (p : Addr) (n : Nat) : Prop := ∃ a b c : Int, H p = some (.lst [.int a, .int b, .int c]) ∧ 0 ≤ a ∧ 0 ≤ b ∧ b < 10 ^ 24 + 7 ∧ 0 ≤ c ∧ c ≤ n
theorem Pu.same {H H' : Hp} {p : Addr} {n : Nat} (h : Pu H p n) (s : Same H H') : Pu H' p n := by
  obtain ⟨a, b, c, e, r⟩ := h
  exact ⟨a, b, c, s _ _ e, r⟩
theorem Pu.le {H : Hp} {p : Addr} {n m : Nat} (h : Pu H p n) (l : n ≤ m) : Pu H p m := by
  obtain ⟨a, b, c, e, r1, r2, r3, r4, r5⟩ := h
  exact ⟨a, b, c, e, r1, r2, r3, r4, by omega⟩
def spPu (K : Frag) : Sp := fun vs H Q _ => ∃ (a : Addr) (ns : List Int) (i : Nat), vs = [.ref a, .int (i : Nat)] ∧ SqL K H a (ns.map V.int) ∧ ns.length ≤ 63 ∧ ∀ H' p, Same H H' → H p = none → Pu H' p 0 → Q (.ref p) H'
def spCo : Sp := fun vs H Q _ => ∃ (p : Addr) (m n : Nat), vs = [.ref p, .int (m : Nat)] ∧ 0 < m ∧ m ≤ 2 ^ 70 ∧ n ≤ 10000 ∧ Pu H p n ∧ ∀ (H' : Hp) (r : Nat), r < m → Pu H' p (n + 1) → (∀ b, b ≠ p → H' b = H b) → Q (.int (r : Nat)) H'
section
variable {P : Program} {w : World} {K : Frag} {mg : Str → Option Value} {base : Heap}
abbrev sPu : Stmt := top 58
abbrev nPu : List Str := ["_law_script", "_law_at", "_law_cell"]
theorem scPu : FnScope nPu ["_law_script", "_law_at"] (defScope sPu) := ⟨rfl, rfl, rfl, by decide +kernel, rfl, by decide +kernel, by decide +kernel⟩
theorem has_Pu {f : Addr} {fd : FuncData} (F : Fun K "_law_purse" "_law_purse" sPu f fd) (g : mg "_law_purse" = some (.ref f)) (B : Blt mg)  :
    Has P w K mg base 1 "_law_purse" ["_law_script", "_law_at"] (spPu K) := by
  refine has_of F g (F.binds (ps := ["_law_script", "_law_at"]) fun _ _ _ _ _ _ us hl => match us, hl with | [_, _], _ => rfl) (F.ok scPu (fun vs H Q E h => ?_) (fun cdv A outer s H vs Q E hr h => ?_))
  · obtain ⟨a, ns, i, rfl, _⟩ := h
    rfl
  · refine ⟨_, (pss_cons (ps_set (i := 2) scPu.nd rfl (.inl rfl) (pe_ifExp (pt_cmpR op_lt (pv 1) (pe_callB call_len_seq (by rfl) B.len PySem.boot_len (pa_cons (pv 0) pa_nil)) (nomark _)) (pe_ix ix_list (pv 0) (pv 1) (fun _ _ => rfl)) pe_int))
        (pss_one (ps_ret (pe_lst (pa_cons (pe_callB (call_max2 rfl) (by rfl) B.max (by decide +kernel) (pa_cons pe_int (pa_cons (pe_op op_sub (pe_callB call_abs (by rfl) B.abs (by decide +kernel) (pa_cons (pv 2) pa_nil)) (pe_op op_pow pe_int pe_int)) pa_nil))) (pa_cons (pe_op op_modN (pe_callTy call_int1 (by rfl) B.int (by decide +kernel) (pa_cons (pe_op op_add (pe_op op_add (pe_op op_mul (pv 2) pe_int) (pe_op op_mul (pv 1) pe_int)) pe_int) pa_nil)) (pe_op op_add (pe_op op_pow pe_int pe_int) pe_int)) (pa_cons pe_int pa_nil))))))), ?_⟩
    obtain ⟨a, ns, i, rfl, hq, hl, k⟩ := h
    have m24 : (10 : Int) ^ (24 : Int).toNat + 7 = 10 ^ 24 + 7 := rfl
    refine ⟨_, rfl, _, rfl, a, _, rfl, .inl hq, _, _, rfl, rfl, _, rfl, if_by (fun e => ⟨_, rfl, _, rfl, a, _, _, .int (ns[i]'(by have := of_decide_eq_true e; rw [List.length_map] at this; omega)), rfl, rfl, hq, atI_nat (by rw [List.getElem?_map, List.getElem?_eq_getElem (by have := of_decide_eq_true e; rw [List.length_map] at this; omega)]; rfl), ?_⟩) (fun e => ?_)⟩
    all_goals
      refine ⟨_, rfl, _, rfl, _, _, rfl, rfl, ⟨by decide, by decide, by decide⟩, _, _, rfl, rfl, _, _, rfl, ?_⟩
      refine ⟨_, rfl, _, _, rfl, rfl, .inr ⟨by decide, by decide⟩, _, rfl, _, _, rfl, rfl, .inr ⟨by decide, by decide⟩, _, _, rfl, rfl, _, _, rfl, rfl, .inl ⟨_, rfl, _, _, rfl, rfl, ⟨by decide, by decide, by decide⟩, _, _, rfl, rfl, _, _, rfl, rfl, by show (_ : Int) ≠ 0; decide, (by decide : 3 ≤ sizeLine), fun p np => ?_⟩⟩
      refine k _ p (same_upd np) np ⟨_, _, _, upd_same, ?_, fm0 (by decide) _, fm1 (by decide) _, by decide, by decide⟩
      split <;> omega
abbrev sCo : Stmt := top 59
abbrev nCo : List Str := ["_law_purse_here", "_law_many", "_law_coin_here", "_law_stirred"]
theorem scCo : FnScope nCo ["_law_purse_here", "_law_many"] (defScope sCo) := ⟨rfl, rfl, rfl, by decide +kernel, rfl, by decide +kernel, by decide +kernel⟩
theorem has_Co {f : Addr} {fd : FuncData} (F : Fun K "_law_coin" "_law_coin" sCo f fd) (g : mg "_law_coin" = some (.ref f)) (B : Blt mg)  :
    Has P w K mg base 1 "_law_coin" ["_law_purse_here", "_law_many"] spCo := by
  refine has_of F g (F.binds (ps := ["_law_purse_here", "_law_many"]) fun _ _ _ _ _ _ us hl => match us, hl with | [_, _], _ => rfl) (F.ok scCo (fun vs H Q E h => ?_) (fun cdv A outer s H vs Q E hr h => ?_))
  · obtain ⟨p, m, n, rfl, _⟩ := h
    rfl
  · refine ⟨_, (pss_cons (ps_if (pt_cmpR op_gt (pe_ix ix_list (pv 0) pe_int (fun _ _ => rfl)) pe_int (nomark _)) (pss_cons (ps_set (i := 2) scCo.nd rfl (.inl rfl) (pe_op op_modN (pe_callTy call_int1 (by rfl) B.int (by decide +kernel) (pa_cons (pe_ix ix_list (pv 0) pe_int (fun _ _ => rfl)) pa_nil)) (pv 1)))
          (pss_cons (ps_asg (pe_op op_fdivW (pe_ix ix_list (pv 0) pe_int (fun _ _ => rfl)) (pv 1)) (pg_sub (pv 0) pe_int set_list))
          (pss_one (ps_ret (pv 2))))) pss_nil)
        (pss_cons (ps_asg (pe_op op_add (pe_ix ix_list (pv 0) pe_int (fun _ _ => rfl)) pe_int) (pg_sub (pv 0) pe_int set_list))
        (pss_cons (ps_set (i := 3) scCo.nd rfl (.inl rfl) (pe_op op_add (pe_ix ix_list (pv 0) pe_int (fun _ _ => rfl)) (pe_op op_mul pe_int (pe_ix ix_list (pv 0) pe_int (fun _ _ => rfl)))))
        (pss_cons (ps_set (i := 3) scCo.nd rfl (.inl rfl) (pe_op op_modN (pe_callTy call_int1 (by rfl) B.int (by decide +kernel) (pa_cons (pe_op op_add (pe_op op_mulW (pv 3) (pv 3)) (pe_ix ix_list (pv 0) pe_int (fun _ _ => rfl))) pa_nil)) (pe_op op_add (pe_op op_pow pe_int pe_int) pe_int)))
        (pss_cons (ps_set (i := 3) scCo.nd rfl (.inl rfl) (pe_op op_modN (pe_callTy call_int1 (by rfl) B.int (by decide +kernel) (pa_cons (pe_op op_add (pe_op op_mul (pe_op op_mulW (pv 3) (pv 3)) pe_int) (pv 3)) pa_nil)) (pe_op op_add (pe_op op_pow pe_int pe_int) pe_int)))
        (pss_one (ps_ret (pe_op op_modN (pe_callTy call_int1 (by rfl) B.int (by decide +kernel) (pa_cons (pe_op op_fdivW (pv 3) pe_int) pa_nil)) (pv 1))))))))), ?_⟩
    obtain ⟨p, m, n, rfl, m0, m1, hn, ⟨x, y, z, hp, x0, y0, y1, z0, z1⟩, k⟩ := h
    have hpL : SqL K H p [V.int x, V.int y, V.int z] := SqL.of hp
    have mi : (0 : Int) < (m : Nat) := by omega
    have fin : ∀ (H' : Hp) (r : Int), 0 ≤ r → r < (m : Nat) → Pu H' p (n + 1) → (∀ b, b ≠ p → H' b = H b) → Q (.int r) H' := fun H' r r0 r1 u off => by
      have z := k H' r.toNat (by omega) u off
      rw [show ((r.toNat : Nat) : Int) = r by omega] at z
      exact z
    refine ⟨_, rfl, p, _, _, _, rfl, rfl, hpL, rfl, _, _, rfl, rfl, _, rfl, if_by (fun e => ?_) (fun e => ?_)⟩
    · refine ⟨_, rfl, p, _, _, _, rfl, rfl, hpL, rfl, .inl ⟨_, rfl, _, rfl, _, _, rfl, rfl, Int.ne_of_gt mi, ?_⟩⟩
      refine ⟨_, rfl, p, _, _, _, rfl, rfl, hpL, rfl, _, rfl, _, _, rfl, rfl, wide_div (b := 200) mi (by have : m < 2 ^ 200 := Nat.lt_of_le_of_lt m1 (by decide); omega) (by decide) (by decide), _, rfl, p, _, _, 0, rfl, rfl, hp, rfl, ?_⟩
      refine ⟨_, rfl, fin _ _ (fm0 mi _) (fm1 mi _) ⟨_, _, _, upd_same, Int.ediv_nonneg x0 (by omega), y0, y1, z0, by omega⟩ fun b h => upd_ne h⟩
    · refine ⟨_, rfl, p, _, _, _, rfl, rfl, hpL, rfl, _, _, rfl, rfl, _, rfl, p, _, _, 2, rfl, rfl, hp, rfl, ?_⟩
      have hp1 : (L2.upd H p (.lst [.int x, .int y, .int (z + 1)])) p = some (.lst [.int x, .int y, .int (z + 1)]) := upd_same
      have hp1L : SqL K (L2.upd H p (.lst [.int x, .int y, .int (z + 1)])) p [V.int x, V.int y, V.int (z + 1)] := SqL.of hp1
      refine ⟨_, rfl, p, _, _, _, rfl, rfl, hp1L, rfl, _, rfl, p, _, _, _, rfl, rfl, hp1L, rfl, _, _, rfl, rfl, .inl ⟨by decide, by decide⟩, _, _, rfl, rfl, ?_⟩
      have b1 : 0 ≤ y + 362437 * (z + 1) ∧ y + 362437 * (z + 1) < 2 ^ 90 := by
        have e1 : (10 : Int) ^ 24 + 7 < 2 ^ 89 := by decide
        have e2 : (2 : Int) ^ 90 = 2 ^ 89 + 2 ^ 89 := by decide
        have e3 : (362437 * 20000 : Int) < 2 ^ 89 := by decide
        omega
      refine ⟨_, rfl, _, rfl, _, _, rfl, rfl, wide_mul (a := 100) (b := 100) (by omega) (by omega) (by decide) (by decide) (by decide), _, rfl, p, _, _, _, rfl, rfl, hp1L, rfl, _, _, rfl, rfl, .inl ⟨_, rfl, _, _, rfl, rfl, ⟨by decide, by decide, by decide⟩, _, _, rfl, rfl, _, _, rfl, rfl, by show (_ : Int) ≠ 0; decide, ?_⟩⟩
      have t0 : 0 ≤ ((y + 362437 * (z + 1)) * (y + 362437 * (z + 1)) + (z + 1)).fmod (10 ^ Int.toNat 25 + 13) := fm0 (by decide) _
      have t2 : ((y + 362437 * (z + 1)) * (y + 362437 * (z + 1)) + (z + 1)).fmod (10 ^ Int.toNat 25 + 13) < 2 ^ 90 := Int.lt_trans (fm1 (by decide) _) (by decide)
      refine ⟨_, rfl, _, rfl, _, _, rfl, rfl, wide_mul (a := 100) (b := 100) (by omega) (by omega) (by decide) (by decide) (by decide), _, _, rfl, rfl, .inr ⟨by decide, by decide⟩, _, rfl, _, _, rfl, rfl, .inl ⟨_, rfl, _, _, rfl, rfl, ⟨by decide, by decide, by decide⟩, _, _, rfl, rfl, _, _, rfl, rfl, by show (_ : Int) ≠ 0; decide, ?_⟩⟩
      refine ⟨_, rfl, _, _, rfl, rfl, wide_div (j := 1000) (b := 200) (by decide) (by decide) (by decide) (by decide), .inl ⟨_, rfl, _, rfl, _, _, rfl, rfl, Int.ne_of_gt mi, ?_⟩⟩
      exact fin _ _ (fm0 mi _) (fm1 mi _) ⟨_, _, _, upd_same, x0, y0, y1, by omega, by omega⟩ fun b h => upd_ne h
end
theorem offs {p : Addr} {H H' : Hp} (off : ∀ b, b ≠ p → H' b = H b) : Same (hide H p) (hide H' p) := fun b o h => by
  unfold hide at h ⊢
  by_cases e : b = p
  · rw [if_pos e] at h; cases h
  · rw [if_neg e] at h ⊢
    rw [off b e]
    exact h
def BldP (K : Frag) (p : Addr) (H H' : Hp) (R : Addr) (ds : List PyData) : Prop := H R = none ∧ R ≠ p ∧ Same (hide H p) (hide (hide H' R) p) ∧ ∃ ys, H' R = some (.lst ys) ∧ DpAll K (hide (hide H' R) p) ys ds
theorem hide_comm {H : Hp} {a b : Addr} : hide (hide H a) b = hide (hide H b) a := by
  funext c
  unfold hide
  by_cases e : c = b
  · rw [if_pos e]
    by_cases e2 : c = a
    · rw [if_pos e2]
    · rw [if_neg e2, if_pos e]
  · rw [if_neg e]
    by_cases e2 : c = a
    · rw [if_pos e2, if_pos e2]
    · rw [if_neg e2, if_neg e2, if_neg e]
theorem BldP.new {K : Frag} {p R : Addr} {H : Hp} (n : H R = none) (ne : R ≠ p) : BldP K p H (L2.upd H R (.lst [])) R [] :=
  ⟨n, ne, hide_mono (hide_of (same_upd n) n), [], upd_same, .nil⟩
theorem BldP.same {K : Frag} {p R : Addr} {H H1 H2 : Hp} {ds : List PyData} (b : BldP K p H H1 R ds) (s : Same H1 H2) : BldP K p H H2 R ds := by
  obtain ⟨n, ne, s0, ys, h, a⟩ := b
  exact ⟨n, ne, s0.trans (hide_mono (hide_mono s)), ys, s _ _ h, dpAll_same (hide_mono (hide_mono s)) a⟩
theorem BldP.draw {K : Frag} {p R : Addr} {H H1 H2 : Hp} {ds : List PyData} (b : BldP K p H H1 R ds) (off : ∀ b, b ≠ p → H2 b = H1 b) : BldP K p H H2 R ds := by
  obtain ⟨n, ne, s0, ys, h, a⟩ := b
  have s : Same (hide (hide H1 R) p) (hide (hide H2 R) p) := by
    rw [hide_comm (a := R), hide_comm (a := R)]
    exact hide_mono (offs off)
  exact ⟨n, ne, s0.trans s, ys, by rw [off R ne]; exact h, dpAll_same s a⟩
theorem BldP.put {K : Frag} {p R : Addr} {H H1 : Hp} {ds : List PyData} (b : BldP K p H H1 R ds) : ∃ ys, H1 R = some (.lst ys) ∧ ys.length = ds.length ∧ ∀ v d, Dp K (hide (hide H1 R) p) v d → BldP K p H (L2.upd H1 R (.lst (ys ++ [v]))) R (ds ++ [d]) := by
  obtain ⟨n, ne, s0, ys, h, a⟩ := b
  exact ⟨ys, h, dpLen a, fun v d hd => ⟨n, ne, s0.trans (hide_mono hide_upd), _, upd_same, dpApp (dpAll_same (hide_mono hide_upd) a) (.cons (dp_same (hide_mono hide_upd) hd) .nil)⟩⟩
theorem BldP.two {K : Frag} {p R T : Addr} {H H1 : Hp} {ds : List PyData} (b : BldP K p H H1 R ds) {o : HO} (hp : H1 p = some o) (n : H1 T = none) (x y : Str) : Dp K (hide (hide (L2.upd H1 T (.tup [.str x, .str y])) R) p) (.ref T) (.tuple [.str x, .str y]) := by
  obtain ⟨_, ne, s0, ys, h, a⟩ := b
  exact .tup (SqT.of (hide_ne (hide_ne upd_same (fun e => by rw [e, h] at n; cases n)) (fun e => by rw [e, hp] at n; cases n))) (.cons (.str _) (.cons (.str _) .nil))
theorem pick_of (ws : List Str) {r : Nat} (h : r < ws.length) : ∃ x ∈ ws, (ws.map V.str)[r]? = some (V.str x) := ⟨ws[r], List.getElem_mem h, by rw [List.getElem?_map, List.getElem?_eq_getElem h]; rfl⟩
theorem pick_cs (z : Str) {r : Nat} (h : r < z.length) : ∃ c ∈ cs z, (cs z)[r]? = some c := by
  rw [len_cs] at h
  exact ⟨(cs z)[r], List.getElem_mem h, List.getElem?_eq_getElem h⟩
theorem Pu.put {H : Hp} {p a : Addr} {n : Nat} {o : HO} (h : Pu H p n) (ne : a ≠ p) : Pu (L2.upd H a o) p n := by
  obtain ⟨x, y, z, e, r⟩ := h
  exact ⟨x, y, z, by rw [upd_ne (Ne.symm ne)]; exact e, r⟩
theorem Pu.some {H : Hp} {p : Addr} {n : Nat} (h : Pu H p n) : ∃ o, H p = some o := by
  obtain ⟨x, y, z, e, r⟩ := h
  exact ⟨_, e⟩
theorem Pu.ne {H : Hp} {p a : Addr} {n : Nat} (h : Pu H p n) (e : H a = none) : a ≠ p := fun z => by
  obtain ⟨o, h⟩ := h.some
  rw [z, h] at e
  cases e
end Qb
end PySem
namespace PySem
namespace Qb
open PySem.W PySem.Calls PyProof.Rows L2
/-! # texts of values, drawn -/
theorem rep_len (z : Str) : ∀ n, (⟨(List.replicate n z.cps).foldl (· ++ ·) #[]⟩ : Str).length = n * z.length := by
  have key : ∀ (n : Nat) (a : Array Nat), ((List.replicate n z.cps).foldl (· ++ ·) a).size = a.size + n * z.cps.size := by
    intro n
    induction n with
    | zero => intro a; simp
    | succ n ih =>
      intro a
      rw [List.replicate_succ, List.foldl_cons, ih, Array.size_append, Nat.succ_mul]
      omega
  intro n
  exact (key n #[]).trans (Nat.zero_add _)
theorem op_mulS {X : Cx} : OpR X (binaryOp .Mult) (fun x y H Q => ∃ (z : Str) (n : Nat), x = .str z ∧ y = .int (n : Nat) ∧ 2 ≤ n ∧ n ≤ 1000 ∧ 1 ≤ z.length ∧ z.length ≤ 1000 ∧ Q (.str ⟨(List.replicate n z.cps).foldl (· ++ ·) #[]⟩) H) := by
  intro pins s σ H x y v u Q I rx ry h
  obtain ⟨z, n, rfl, rfl, h2, h3, h4, h5, q⟩ := h
  obtain ⟨t, rfl⟩ := rx
  obtain ⟨t', rfl⟩ := ry
  refine PySem.P.mul_str ?_ ?_ ?_ ?_
  · have a : ¬ ((n : Nat) : Int) < -(2 ^ 63 : Int) := by omega
    have b : ¬ ((n : Nat) : Int) ≥ 2 ^ 63 := by omega
    rw [decide_eq_false a, decide_eq_false b]; rfl
  · intro _ _ c
    have z : (1000 : Int) ≤ (2 ^ 63 - 1) / n := Int.le_ediv_of_mul_le (by omega) (by omega)
    omega
  · intro _ _
    show decide (_ > sizeLine) = false
    refine decide_eq_false fun c => ?_
    have z : z.length * ((n : Nat) : Int).toNat ≤ 1000 * 1000 := Nat.mul_le_mul h5 (by omega)
    rw [sizeLine_eq] at c
    omega
  · rw [if_neg (by omega), if_neg (by simp; omega)]
    refine ⟨?_, ⟨.str _, H, I.tok _, ⟨_, rfl⟩, q⟩⟩
    rw [Int.toNat_natCast, rep_len, sizeLine_eq]
    have z : n * z.length ≤ 1000 * 1000 := Nat.mul_le_mul h3 h5
    omega
theorem nmC_len {n k : Nat} (hk : 0 < k) (h : n < 10 ^ k) : (nmC n).length ≤ k := by
  rw [nmC_eq]
  exact TL.numL_len hk h
theorem str_i (i : Int) : cs (Str.ofString (toString i)) = if i < 0 then 45 :: nmC i.natAbs else nmC i.natAbs := by
  cases i with
  | ofNat n =>
    rw [if_neg (show ¬ Int.ofNat n < 0 from Int.not_lt.mpr (Int.natCast_nonneg n))]
    rfl
  | negSucc n =>
    rw [if_pos (Int.negSucc_lt_zero n)]
    show (Str.ofString ("-" ++ toString (n + 1))).cps.toList = 45 :: (Str.ofString (toString (n + 1))).cps.toList
    rw [PyProof.Rows.signs_ofString, PyProof.Rows.signs_ofString, String.toList_append, List.map_append]
    rfl
theorem sh_i {i : Int} (h : i.natAbs < 10 ^ 41) : shT (Str.ofString (toString i)) := by
  have e := str_i i
  have l := nmC_len (by decide) h
  obtain ⟨_, d, _, _⟩ := nmC_ok i.natAbs
  have dl : ∀ c ∈ digC, c < 1114112 := by decide
  refine ⟨?_, strOk_lt fun c m => ?_⟩
  · rw [len_cs, e]
    split
    · rw [List.length_cons]; omega
    · omega
  · rw [e] at m
    split at m
    · rcases List.mem_cons.mp m with rfl | m
      · decide
      · exact dl c (d c m)
    · exact dl c (d c m)
def oddA : List Str := ["x", "-", "-0", "007", "+1", " 1", "1 ", "1.0", "- 1", "1_0", "--1", "1\n", "00", "0-1", "-01"]
def rep (z : Str) (n : Nat) : Str := ⟨(List.replicate n z.cps).foldl (· ++ ·) #[]⟩
def oddB : List Str := ["1" ++ rep "0" 40, "-" ++ rep "9" 41]
theorem odd_sh : ∀ x ∈ oddA ++ oddB, shT x := by
  have h : ∀ x ∈ oddA ++ oddB, x.length ≤ 60 ∧ PyData.strOk x = true := by decide +kernel
  exact h
end Qb
end PySem
namespace PySem
namespace Qb
open PySem.W PySem.Calls PyProof.Rows L2
/-! # names, drawn -/
abbrev s1c (c : Nat) : Str := ⟨#[c]⟩
theorem joinL_s1 : ∀ l : List Nat, TL.joinL [] ((l.map s1c).map TL.tl) = l
  | [] => rfl
  | [c] => rfl
  | c :: d :: l => by
    have ih := joinL_s1 (d :: l)
    show [c] ++ ([] ++ TL.joinL [] (((d :: l).map s1c).map TL.tl)) = _
    rw [ih]
    rfl
theorem join_s1 (l : List Nat) : cs (Txt.join "" (l.map s1c)) = l := by
  rw [TL.join_eq]
  have e : cs (Str.join "" (l.map s1c)) = TL.joinL [] ((l.map s1c).map TL.tl) := TL.tl_join "" (l.map s1c)
  rw [e, joinL_s1]
theorem sum_s1 : ∀ l : List Nat, ((l.map s1c).map (·.length)).sum = l.length
  | [] => rfl
  | c :: l => by
    rw [List.map_cons, List.map_cons, List.sum_cons, sum_s1 l, List.length_cons]
    show 1 + l.length = _
    omega
theorem hput {H H1 : Hp} {p R : Addr} {o : HO} (s : Same (hide H p) (hide H1 p)) (n : H R = none) : Same (hide H p) (hide (L2.upd H1 R o) p) := fun a x h => by
  have ne : a ≠ R := fun z => by
    have y := hide_same _ _ h
    rw [z, n] at y
    cases y
  have z := s a x h
  unfold hide at z ⊢
  by_cases e : a = p
  · rw [if_pos e] at z; cases z
  · rw [if_neg e] at z ⊢
    rw [upd_ne ne]
    exact z
theorem oldN {H H1 : Hp} {p W : Addr} {n : Nat} (s : Same (hide H p) (hide H1 p)) (u : Pu H1 p n) (nW : H1 W = none) : H W = none := by
  cases e : H W with
  | none => rfl
  | some o =>
    by_cases z : W = p
    · obtain ⟨o', h'⟩ := u.some
      rw [z, h'] at nW
      cases nW
    · have y := hide_same _ _ (s W o (hide_ne e z))
      rw [y] at nW
      cases nW
/-- a name as the law draws it -/
def nmOk (k : Nat) (w : Str) : Prop := isNm (cs w) = true ∧ w.length ≤ k
theorem nmOk.le {k m : Nat} {w : Str} (h : nmOk k w) (l : k ≤ m) : nmOk m w := ⟨h.1, Nat.le_trans h.2 l⟩
theorem nmOk.str {k : Nat} {w : Str} (h : nmOk k w) : PyData.strOk w = true := strOk_lt fun c m => by
  obtain ⟨a, r, e, ma, mr⟩ := nm_cons h.1
  rw [e] at m
  rcases List.mem_cons.mp m with rfl | m
  · exact (by decide +kernel : ∀ c ∈ staC, c < 1114112) c ma
  · exact (by decide +kernel : ∀ c ∈ namC, c < 1114112) c (mr c m)
theorem nmOk.app {k j : Nat} {w x : Str} (h : nmOk k w) (hx : ∀ c ∈ cs x, c ∈ namC) (l : x.length ≤ j) : nmOk (k + j) (w ++ x) := by
  obtain ⟨a, r, e, ma, mr⟩ := nm_cons h.1
  refine ⟨?_, ?_⟩
  · rw [cs_app, e]
    show (decide (a ∈ staC) && (r ++ cs x).all fun d => decide (d ∈ namC)) = true
    rw [decide_eq_true ma, Bool.true_and, List.all_eq_true]
    intro c m
    rcases List.mem_append.mp m with m | m
    · exact decide_eq_true (mr c m)
    · exact decide_eq_true (hx c m)
  · have := h.2
    rw [len_cs, cs_app, List.length_append, ← len_cs, ← len_cs]
    omega
def letS : Str := "ABCDEFGHIJKLMNOPQRSTUVWXYZ_abcdefghijklmnopqrstuvwxyz"
def letD : Str := letS ++ "0123456789"
/-- a name or place of the law's -/
def gw (w : Str) : Prop := nmOk 60 w ∨ w ∈ wSp
def spWd : Sp := fun vs H Q _ => ∃ (p : Addr) (n : Nat), vs = [.ref p] ∧ n ≤ 100 ∧ Pu H p n ∧ ∀ (H' : Hp) (W : Addr) (ws : List Str), Same (hide H p) (hide H' p) → Pu H' p (n + 60) → H' W = some (.lst (ws.map V.str)) → H W = none → W ≠ p → ws.length = 11 → (∀ w ∈ ws, gw w) → Q (.ref W) H'
section
variable {P : Program} {w : World} {K : Frag} {mg : Str → Option Value} {base : Heap}
abbrev sWd : Stmt := top 60
abbrev nWd : List Str := ["_law_purse_here", "_law_letters", "_law_words_here", "_law_turn", "_law_word", "_law_k"]
theorem scWd : FnScope nWd ["_law_purse_here"] (defScope sWd) := ⟨rfl, rfl, rfl, by decide +kernel, rfl, by decide +kernel, by decide +kernel⟩
theorem has_Wd {f : Addr} {fd : FuncData}  (F : Fun K "_law_words" "_law_words" sWd f fd) (g : mg "_law_words" = some (.ref f)) (B : Blt mg) (hCo : Has P w K mg base 1 "_law_coin" ["_law_purse_here", "_law_many"] (spCo)) :
    Has P w K mg base 2 "_law_words" ["_law_purse_here"] (spWd) := by
  obtain ⟨fCo, dCo, gCo, kCo, bCo, GCo⟩ := hCo
  refine has_of F g (F.binds (ps := ["_law_purse_here"]) fun _ _ _ _ _ _ us hl => match us, hl with | [_], _ => rfl) (F.ok scWd (fun vs H Q E h => ?_) (fun cdv A outer s H vs Q E hr h => ?_))
  · obtain ⟨p, n, rfl, _⟩ := h
    rfl
  · refine ⟨_, (pss_cons (ps_set (i := 1) scWd.nd rfl (.inr rfl) pe_str)
        (pss_cons (ps_set (i := 2) scWd.nd rfl (.inl rfl) (pe_lst pa_nil))
        (pss_cons (ps_for PassesOwn.never rfl (pi_range1 (by rfl) B.range (pa_cons pe_int pa_nil)) (pg_name (i := 3) scWd.nd rfl (.inl rfl))
          (pss_cons (ps_set (i := 4) scWd.nd rfl (.inl rfl) (pe_ix ix_str (pv 1) (pe_call GCo hr rfl gCo kCo bCo .nil pass0 (pa_cons (pv 0) (pa_cons pe_int pa_nil))) (fun _ _ => rfl)))
          (pss_cons (ps_weak (ps_if (PW.pt (pw_and (pt_cmpR (op_neD hr.units) (pv 2) (pe_lst pa_nil) (nomark _)) (pw_and1 (pt_cmpR op_eq (pe_call GCo hr rfl gCo kCo bCo .nil pass0 (pa_cons (pv 0) (pa_cons pe_int pa_nil))) pe_int (nomark _))))) (pss_one (ps_set (i := 4) scWd.nd rfl (.inl rfl) (pe_ix ix_list (pv 2) (pe_call GCo hr rfl gCo kCo bCo .nil pass0 (pa_cons (pv 0) (pa_cons (pe_callB call_len_seq (by rfl) B.len PySem.boot_len (pa_cons (pv 2) pa_nil)) pa_nil))) (fun _ _ => rfl)))) pss_nil))
          (pss_one (ps_expr (pe_bm PySem.F.plainAttrs_list PySem.F.slot_list_append PySem.F.type_list_append mt_append (pv 2) (pa_cons (pe_op op_add_str (pv 4) (pe_join pe_str (pe_lc (te := tOp rIxS (tOp (fun x y H Q => ∃ i j, x = .str i ∧ y = .str j ∧ i.length + j.length ≤ sizeLine ∧ Q (.str (i ++ j)) H) (tVar 1) (tC (.str "0123456789"))) (tCall spCo [] E0 (tCons (tVar 0) (tCons (tC (.int 63)) tNil)))) (own := [("_law_k", 5)]) (g := gName 5) (tt := tYes) rfl scWd.nd (pi_range1 (by rfl) B.range (pa_cons (pe_call GCo hr rfl gCo kCo bCo .nil pass0 (pa_cons (pv 0) (pa_cons pe_int pa_nil))) pa_nil)) (blkOk_by (N := nWd) (sc := defScope sWd) (by decide +kernel)) (fun _ _ _ _ _ => pg_name (i := 5) scWd.nd rfl (.inl rfl)) (fun _ _ _ _ _ => pts_nil) (fun _ _ _ _ _ => (pe_ix ix_str (pe_op op_add_str (pv 1) pe_str) (pe_call GCo hr rfl gCo kCo bCo .nil pass0 (pa_cons (pv 0) (pa_cons pe_int pa_nil))) (fun _ _ => rfl)))))) pa_nil)))))))
        (pss_one (ps_ret (pe_op op_cat (pv 2) (pe_lst (pa_cons pe_str (pa_cons pe_str (pa_cons pe_str pa_nil)))))))))), ?_⟩
    obtain ⟨p, n, rfl, hn, u, k⟩ := h
    refine ⟨(by decide : 0 ≤ sizeLine), fun R nR => ?_⟩
    have ne := u.ne nR
    have u1 := u.put (o := .lst []) ne
    have s1 : Same (hide H p) (hide (L2.upd H R (.lst [])) p) := hide_mono (same_upd nR)
    have hR1 : (L2.upd H R (.lst [])) R = some (.lst (([] : List Str).map V.str)) := upd_same
    generalize L2.upd H R (.lst []) = H1 at u1 s1 hR1 ⊢
    refine ⟨8, rfl, by decide, by decide, ?_⟩
    refine for_range (lo := 0) (n := 8) (fun i σ H' => (∃ x3 x4 x5, σ = [some (.ref p), some (.str letS), some (.ref R), x3, x4, x5]) ∧ Pu H' p (n + 6 * i) ∧ Same (hide H p) (hide H' p) ∧ ∃ ws : List Str, H' R = some (.lst (ws.map V.str)) ∧ ws.length = i ∧ ∀ w ∈ ws, nmOk (1 + 2 * i) w) ⟨⟨_, _, _, rfl⟩, u1, s1, [], hR1, rfl, by simp⟩ (fun i σ H' hi e => ?_) (fun σ H' e => ?_)
    · obtain ⟨⟨x3, x4, x5, rfl⟩, u2, s2, ws, hR, lw, ok⟩ := e
      refine ⟨_, rfl, _, rfl, p, 53, _, rfl, by decide, by decide, by omega, u2, fun H3 r3 hr3 u3 o3 => ?_⟩
      have hR3 : H3 R = some (.lst (ws.map V.str)) := by rw [o3 R ne]; exact hR
      have s3 := s2.trans (offs o3)
      obtain ⟨c3, m3, hc3⟩ := pick_cs letS (r := r3) (by show r3 < 53; exact hr3)
      have n3 : nmOk (1 + 2 * i) (s1c c3) := by
        refine nmOk.le (k := 1) ⟨?_, Nat.le_refl _⟩ (by omega)
        show (decide (c3 ∈ staC) && ([] : L).all _) = true
        rw [decide_eq_true ((by decide +kernel : ∀ c ∈ cs letS, c ∈ staC) c3 m3)]
        rfl
      refine ⟨letS, _, c3, rfl, rfl, line_small (by decide +kernel), atI_nat hc3, ?_⟩
      refine ⟨fun σ' H' => ∃ (w : Str) (x3 x5 : Option V), σ' = [some (.ref p), some (.str letS), some (.ref R), x3, some (.str w), x5] ∧ Pu H' p (n + 6 * i + 3) ∧ Same (hide H p) (hide H' p) ∧ H' R = some (.lst (ws.map V.str)) ∧ nmOk (1 + 2 * i) w, ?_, ?_⟩
      · rintro σ' H4 ⟨w, x3, x5, rfl, u4, s4, hR4, nw⟩
        refine ⟨_, rfl, .inl ⟨rfl, _, SqL.of hR4⟩, _, rfl, ⟨_, rfl⟩, _, rfl, p, 3, _, rfl, by decide, by decide, by omega, u4, fun H5 r5 hr5 u5 o5 => ?_⟩
        have hR5 : H5 R = some (.lst (ws.map V.str)) := by rw [o5 R ne]; exact hR4
        have s5 := s4.trans (offs o5)
        refine ⟨_, rfl, by omega, by omega, fun D hD => ?_⟩
        have neD : R ≠ D := fun z => by rw [← z, hR5] at hD; cases hD
        have nDp := u5.ne hD
        have nDH := oldN s5 u5 hD
        refine lc_it (walk_range (lo := 0) (n := r5)) (fun j H' => Pu H' p (n + 6 * i + 4 + j) ∧ Same (hide H p) (hide H' p) ∧ H' R = some (.lst (ws.map V.str)) ∧ ∃ l : List Nat, H' D = some (.lst ((l.map s1c).map V.str)) ∧ l.length = j ∧ ∀ c ∈ l, c ∈ namC)
          ⟨u5.put nDp, hput s5 nDH, by rw [upd_ne neD]; exact hR5, [], upd_same, rfl, by simp⟩ (fun _ _ _ _ => trivial) (fun j x H' H2 hj e y => ?_) (fun H' e => ?_)
        · obtain ⟨u6, s6, hR6, l, hDl, ll, okl⟩ := e
          obtain ⟨rfl, rfl⟩ := y
          refine ⟨rfl, _, rfl, _, _, rfl, rfl, line_small (by decide +kernel), _, rfl, p, 63, _, rfl, by decide, by decide, by omega, u6, fun H7 r7 hr7 u7 o7 => ?_⟩
          have hR7 : H7 R = some (.lst (ws.map V.str)) := by rw [o7 R ne]; exact hR6
          have hD7 : H7 D = some (.lst ((l.map s1c).map V.str)) := by rw [o7 D nDp]; exact hDl
          have s7 := s6.trans (offs o7)
          obtain ⟨c, mc, hc⟩ := pick_cs letD (r := r7) (by show r7 < 63; exact hr7)
          refine ⟨letD, _, c, rfl, rfl, line_small (by decide +kernel), atI_nat hc, _, hD7, ?_, u7.put nDp, hput s7 nDH, by rw [upd_ne neD]; exact hR7, l ++ [c], ?_, by rw [List.length_append, ll]; rfl, fun d md => ?_⟩
          · rw [List.length_map, List.length_map, ll]
            exact Nat.lt_of_lt_of_le (by omega : j < 3) (by decide)
          · rw [upd_same, List.map_append, List.map_append]
            rfl
          · rcases List.mem_append.mp md with md | md
            · exact okl d md
            · rw [List.mem_singleton.mp md]
              exact (by decide +kernel : ∀ c ∈ cs letD, c ∈ namC) c mc
        · obtain ⟨u6, s6, hR6, l, hDl, ll, okl⟩ := e
          have lj : (Txt.join "" (l.map s1c)).length = l.length := by rw [len_cs, join_s1]
          refine ⟨"", D, l.map s1c, rfl, rfl, .inl (SqL.of hDl), ?_, ?_⟩
          · rw [sum_s1, ll]
            show _ + _ * 0 ≤ _
            omega
          have nw2 := nmOk.app nw (x := Txt.join "" (l.map s1c)) (j := 2) (fun c m => by rw [join_s1] at m; exact okl c m) (by omega)
          refine ⟨_, _, rfl, rfl, line_small (by have := nw.2; omega), R, _, _, rfl, rfl, hR6, ?_, ?_⟩
          · rw [List.length_map, lw]
            exact Nat.lt_of_lt_of_le hi (by decide)
          refine ⟨⟨_, _, _, rfl⟩, (u6.put ne).le (by omega), hput s6 nR, ws ++ [w ++ Txt.join "" (l.map s1c)], ?_, by rw [List.length_append, lw]; rfl, fun x m => ?_⟩
          · rw [upd_same, List.map_append]
            rfl
          · rcases List.mem_append.mp m with m | m
            · exact (ok x m).le (by omega)
            · rw [List.mem_singleton.mp m]
              exact nw2.le (by omega)
      · refine ⟨_, rfl, (by decide : 0 ≤ sizeLine), fun T nT => ?_⟩
        have neT : R ≠ T := fun z => by rw [← z, hR3] at nT; cases nT
        have nTp := u3.ne nT
        have u4 := u3.put (o := .lst []) nTp
        have s4 := s3.trans (hide_mono (same_upd (o := .lst []) nT))
        have hR4 : (L2.upd H3 T (.lst [])) R = some (.lst (ws.map V.str)) := by rw [upd_ne neT]; exact hR3
        have hT4 : (L2.upd H3 T (.lst [])) T = some (.lst []) := upd_same
        generalize L2.upd H3 T (.lst []) = H4 at u4 s4 hR4 hT4 ⊢
        refine ⟨.list (ws.map PyData.str), .list [], .lst (SqL.of hR4) (dpStrs ws), .lst (SqL.of hT4) .nil, sh_strs fun w m => (ok w m).str, by decide, _, rfl, ?_⟩
        rw [eqv_nil]
        refine if_by (fun e => ?_) (fun _ => if_no rfl ⟨_, _, _, rfl, u4.le (by omega), s4, hR4, n3⟩)
        have l0 : 0 < ws.length := by
          cases ws with
          | nil => cases e
          | cons => simp
        refine ⟨_, rfl, p, 2, _, rfl, by decide, by decide, by omega, u4, fun H5 r5 hr5 u5 o5 => ?_⟩
        have hR5 : H5 R = some (.lst (ws.map V.str)) := by rw [o5 R ne]; exact hR4
        have s5 := s4.trans (offs o5)
        refine ⟨rfl, _, rfl, if_by (fun _ => ?_) (fun _ => ⟨_, _, _, rfl, u5.le (by omega), s5, hR5, n3⟩)⟩
        refine ⟨_, rfl, _, rfl, _, rfl, R, _, rfl, .inl (SqL.of hR5), p, ws.length, _, by rw [List.length_map]; rfl, l0, Nat.le_trans (by omega : ws.length ≤ 8) (by decide), by omega, u5, fun H6 r6 hr6 u6 o6 => ?_⟩
        have hR6 : H6 R = some (.lst (ws.map V.str)) := by rw [o6 R ne]; exact hR5
        have s6 := s5.trans (offs o6)
        obtain ⟨w, mw, hw⟩ := pick_of ws hr6
        exact ⟨R, _, _, _, rfl, rfl, SqL.of hR6, atI_nat hw, _, _, _, rfl, u6.le (by omega), s6, hR6, ok w mw⟩
    · obtain ⟨⟨x3, x4, x5, rfl⟩, u2, s2, ws, hR, lw, ok⟩ := e
      refine ⟨_, rfl, (by decide : 3 ≤ sizeLine), fun L nL => ?_⟩
      have neL : R ≠ L := fun z => by rw [← z, hR] at nL; cases nL
      have nLp := u2.ne nL
      have u3 := u2.put (o := .lst (wSp.map V.str)) nLp
      have s3 := s2.trans (hide_mono (same_upd (o := .lst (wSp.map V.str)) nL))
      have hR3 : (L2.upd H' L (.lst (wSp.map V.str))) R = some (.lst (ws.map V.str)) := by rw [upd_ne neL]; exact hR
      have hL3 : (L2.upd H' L (.lst (wSp.map V.str))) L = some (.lst (wSp.map V.str)) := upd_same
      replace u3 : Pu (L2.upd H' L (.lst [.str "#", .str "?", .str "0"])) p _ := u3
      replace s3 : Same (hide H p) (hide (L2.upd H' L (.lst [.str "#", .str "?", .str "0"])) p) := s3
      replace hR3 : (L2.upd H' L (.lst [.str "#", .str "?", .str "0"])) R = some (.lst (ws.map V.str)) := hR3
      replace hL3 : (L2.upd H' L (.lst [.str "#", .str "?", .str "0"])) L = some (.lst (wSp.map V.str)) := hL3
      generalize L2.upd H' L (.lst [.str "#", .str "?", .str "0"]) = H3 at u3 s3 hR3 hL3 ⊢
      refine ⟨R, L, _, _, rfl, rfl, hR3, hL3, ?_, fun W nW => ?_⟩
      · rw [List.length_map, lw]
        exact (by decide : 8 + 3 ≤ sizeLine)
      · have y : ∀ o, (L2.upd H3 W o) W = some o := fun o => upd_same
        refine k _ W (ws ++ wSp) (s3.trans (hide_mono (same_upd nW))) ((u3.put (u3.ne nW)).le (by omega)) ?_ (oldN s3 u3 nW) (u3.ne nW) (by rw [List.length_append, lw]; rfl) fun w m => ?_
        · rw [y, List.map_append]
        · rcases List.mem_append.mp m with m | m
          · exact .inl ((ok w m).le (by decide))
          · exact .inr m
end
end Qb
end PySem
namespace PySem
namespace Qb
open PySem.W PySem.Calls PyProof.Rows L2
/-! # names with values, drawn -/
def putP (ps : List (Str × Str)) (w x : Str) : List (Str × Str) := if (ps.any fun p => decide (p.1 = w)) = true then ps.map (fun p => if p.1 = w then (p.1, x) else p) else ps ++ [(w, x)]
theorem bk_put (ps : List (Str × Str)) (w x : Str) : putK (bkV ps) (Sum.inr w : Key) (.str x) = bkV (putP ps w x) := by
  have ea : ((bkV ps).any fun kv => decide (kv.1 = (Sum.inr w : Key))) = ps.any fun p => decide (p.1 = w) := by
    unfold bkV
    rw [List.any_map]
    congr 1
    funext p
    exact decide_eq_decide.mpr ⟨Sum.inr.inj, congrArg Sum.inr⟩
  unfold putK putP
  rw [ea]
  split
  · unfold bkV
    rw [List.map_map, List.map_map]
    refine List.map_congr_left fun p _ => ?_
    by_cases c : p.1 = w
    · show (if (Sum.inr p.1 : Key) = Sum.inr w then _ else _) = _
      rw [if_pos (congrArg Sum.inr c)]
      show _ = ((Sum.inr (if p.1 = w then (p.1, x) else p).1 : Key), V.str (if p.1 = w then (p.1, x) else p).2)
      rw [if_pos c]
    · show (if (Sum.inr p.1 : Key) = Sum.inr w then _ else _) = _
      rw [if_neg (fun z => c (Sum.inr.inj z))]
      show _ = ((Sum.inr (if p.1 = w then (p.1, x) else p).1 : Key), V.str (if p.1 = w then (p.1, x) else p).2)
      rw [if_neg c]
  · unfold bkV
    rw [List.map_append]
    rfl
/-- names with values as the law draws them -/
structure Bk (ps : List (Str × Str)) (m : Nat) : Prop where
  nd : (ps.map (·.1)).Nodup
  ok : ∀ q ∈ ps, gw q.1 ∧ shT q.2
  few : ps.length ≤ m
theorem Bk.put {ps : List (Str × Str)} {m : Nat} (h : Bk ps m) {w x : Str} (hw : gw w) (hx : shT x) : Bk (putP ps w x) (m + 1) := by
  unfold putP
  split
  · rename_i e
    refine ⟨?_, fun q mq => ?_, ?_⟩
    · rw [List.map_map, show ((fun p : Str × Str => p.1) ∘ fun p : Str × Str => if p.1 = w then (p.1, x) else p) = (fun p => p.1) from funext fun p => by
        show (if p.1 = w then (p.1, x) else p).1 = p.1
        split <;> rfl]
      exact h.nd
    · obtain ⟨p, mp, rfl⟩ := List.mem_map.mp mq
      split
      · exact ⟨(h.ok p mp).1, hx⟩
      · exact h.ok p mp
    · rw [List.length_map]
      exact Nat.le_succ_of_le h.few
  · rename_i e
    have nw : ∀ p ∈ ps, p.1 ≠ w := fun p mp z => e (List.any_eq_true.mpr ⟨p, mp, decide_eq_true z⟩)
    refine ⟨?_, fun q mq => ?_, ?_⟩
    · rw [List.map_append, List.nodup_append]
      refine ⟨h.nd, by simp, fun a ma b mb => ?_⟩
      obtain ⟨p, mp, rfl⟩ := List.mem_map.mp ma
      rw [List.mem_singleton.mp mb]
      exact nw p mp
    · rcases List.mem_append.mp mq with mq | mq
      · exact h.ok q mq
      · rw [List.mem_singleton.mp mq]
        exact ⟨hw, hx⟩
    · rw [List.length_append]
      exact Nat.add_le_add_right h.few 1
end Qb
end PySem
namespace PySem
namespace Qb
open PySem.W PySem.Calls PyProof.Rows L2
/-! # great numbers, leaves -/
theorem rd_num (m : Nat) : rdAll 20 (nmC m) = some (.num m) := by
  have z := (back (t := .num m) (show (0 : Int) ≤ (m : Nat) by omega)).B 18 [] (by show 6 * 0 + 6 ≤ 18; decide) tidy_nil rfl (by simp [spc])
  rw [List.append_nil] at z
  exact rdAll_some z
theorem fit_num {m : Nat} (h : m < 10 ^ 42) : Fit 20 (Str.ofString (toString ((m : Nat) : Int))) := by
  have e : cs (Str.ofString (toString ((m : Nat) : Int))) = nmC m := rfl
  obtain ⟨_, dg, _, _⟩ := nmC_ok m
  have l := nmC_len (by decide) h
  refine ⟨by rw [len_cs, e]; omega, fun p q s eq _ => ?_, ?_⟩
  · rw [e] at eq
    have := congrArg List.length eq
    rw [List.length_append, List.length_append] at this
    omega
  · rw [e]
    have z : ∀ l : L, (∀ c ∈ l, c ∈ digC) → wt l = 0 := by
      intro l
      induction l with
      | nil => intro _; rfl
      | cons c l ih =>
        intro h
        show wc c + wt l = 0
        rw [ih fun x m => h x (.tail _ m), (by decide : ∀ c ∈ digC, wc c = 0) c (h c (.head _))]
    rw [z _ dg]
    decide
def spGt (K : Frag) : Sp := fun vs H Q _ => ∃ (p : Addr) (n : Nat), vs = [.ref p] ∧ n ≤ 9000 ∧ Pu H p n ∧ ∀ (H' : Hp) (v : V) (m : Nat), Same (hide H p) (hide H' p) → Pu H' p (n + 5) → Dp K H' v (Sm.num m).d → Q v H'
section
variable {P : Program} {w : World} {K : Frag} {mg : Str → Option Value} {base : Heap}
abbrev sGt : Stmt := top 62
abbrev nGt : List Str := ["_law_purse_here", "_law_number", "_law_turn", "_law_found"]
theorem scGt : FnScope nGt ["_law_purse_here"] (defScope sGt) := ⟨rfl, rfl, rfl, by decide +kernel, rfl, by decide +kernel, by decide +kernel⟩
theorem has_Gt {CU : Addr} {f : Addr} {fd : FuncData}  (F : Fun K "_law_great" "_law_great" sGt f fd) (g : mg "_law_great" = some (.ref f)) (B : Blt mg) (hCo : Has P w K mg base 1 "_law_coin" ["_law_purse_here", "_law_many"] (spCo)) (hRs : HasX P w K mg base 27 "read_sum" ["text"] (spRs K CU 20)) (hSm : Has P w K mg base 3 "_law_same" ["_law_found", "_law_due"] (spSm K 2)) :
    Has P w K mg base 28 "_law_great" ["_law_purse_here"] (spGt K) := by
  obtain ⟨fCo, dCo, gCo, kCo, bCo, GCo⟩ := hCo
  obtain ⟨fRs, dRs, gRs, kRs, bRs, GRs⟩ := hRs
  obtain ⟨fSm, dSm, gSm, kSm, bSm, GSm⟩ := hSm
  refine has_of F g (F.binds (ps := ["_law_purse_here"]) fun _ _ _ _ _ _ us hl => match us, hl with | [_], _ => rfl) (F.ok scGt (fun vs H Q E h => ?_) (fun cdv A outer s H vs Q E hr h => ?_))
  · obtain ⟨p, n, rfl, _⟩ := h
    rfl
  · refine ⟨_, (pss_cons (ps_set (i := 1) scGt.nd rfl (.inl rfl) (pe_op op_add (pe_op op_pow pe_int pe_int) (pe_call GCo (hr.mono (by decide)) rfl gCo kCo bCo .nil pass0 (pa_cons (pv 0) (pa_cons (pe_op op_pow pe_int pe_int) pa_nil)))))
        (pss_cons (ps_for PassesOwn.never rfl (pi_range1 (by rfl) B.range (pa_cons (pe_call GCo (hr.mono (by decide)) rfl gCo kCo bCo .nil pass0 (pa_cons (pv 0) (pa_cons pe_int pa_nil))) pa_nil)) (pg_name (i := 2) scGt.nd rfl (.inl rfl))
          (pss_one (ps_set (i := 1) scGt.nd rfl (.inl rfl) (pe_op op_sub (pe_op op_mulW (pv 1) pe_int) (pe_callTy call_int1 (by rfl) B.int (by decide +kernel) (pa_cons (pe_cmpR op_eq (pv 2) pe_int (nomark _)) pa_nil))))))
        (pss_cons (ps_set (i := 3) scGt.nd rfl (.inl rfl) (pe_callS GRs (hr.mono (by decide)) rfl gRs kRs bRs (fun σ => passAt takes_no σ) (by exact (pa_cons (pe_callTy call_str_int (by rfl) B.str (by decide +kernel) (pa_cons (pv 1) pa_nil)) pa_nil))))
        (pss_one (ps_ret (pe_ifExp (pt_val (pe_call GSm (hr.mono (by decide)) rfl gSm kSm bSm .nil pass0 (pa_cons (pv 3) (pa_cons (pe_tup (pa_cons pe_str (pa_cons (pv 1) pa_nil))) pa_nil)))) (pv 3) (pe_tup (pa_cons pe_str (pa_cons pe_int pa_nil))))))))), ?_⟩
    obtain ⟨p, n, rfl, hn, u, k⟩ := h
    refine ⟨_, _, rfl, rfl, ⟨by decide, by decide, by decide⟩, _, rfl, _, _, rfl, rfl, ⟨by decide, by decide, by decide⟩, p, 10 ^ 18, _, rfl, by decide, by decide, by omega, u, fun H1 r1 hr1 u1 o1 => ?_⟩
    have eN : (10 : Int) ^ (38 : Int).toNat + ((r1 : Nat) : Int) = ((10 ^ 38 + r1 : Nat) : Int) := by
      have a : (10 : Int) ^ (38 : Int).toNat = ((10 ^ 38 : Nat) : Int) := by decide
      rw [a, Int.natCast_add]
    refine ⟨_, _, rfl, rfl, ?_⟩
    dsimp only
    rw [eN]
    refine ⟨_, rfl, p, 4, _, rfl, by decide, by decide, by omega, u1, fun H2 r2 hr2 u2 o2 => ?_⟩
    refine ⟨_, rfl, by omega, by omega, ?_⟩
    refine for_range (lo := 0) (n := r2) (fun i σ H' => (∃ (N : Nat) (x2 x3 : Option V), σ = [some (.ref p), some (.int (N : Nat)), x2, x3] ∧ 1 ≤ N ∧ N < 10 ^ (39 + i)) ∧ H' = H2) ⟨⟨_, _, _, rfl, by omega, by omega⟩, rfl⟩ (fun i σ H' hi e => ?_) (fun σ H' e => ?_)
    · obtain ⟨⟨N, x2, x3, rfl, n1, n2⟩, rfl⟩ := e
      have n3 : N < 10 ^ 42 := Nat.lt_of_lt_of_le n2 (Nat.pow_le_pow_right (by decide) (by omega))
      have n4 : N * 10 < 10 ^ (39 + (i + 1)) := by
        rw [show 39 + (i + 1) = (39 + i) + 1 by omega, Nat.pow_succ]
        exact Nat.mul_lt_mul_of_pos_right n2 (by decide)
      refine ⟨_, rfl, _, _, rfl, rfl, wide_mul (a := 150) (b := 140) (by rw [Int.natAbs_natCast]; exact Nat.lt_trans n3 (by decide)) (by decide) (by decide) (by decide) (by decide), _, rfl, rfl, .inr ⟨_, rfl, _, _, rfl, rfl, ?_⟩⟩
      dsimp only
      obtain ⟨M, eM, m1, m2⟩ : ∃ M : Nat, ((N : Nat) : Int) * 10 - (if decide (V.int (0 + ((i : Nat) : Int)) = V.int 1) = true then 1 else 0) = ((M : Nat) : Int) ∧ 1 ≤ M ∧ M < 10 ^ (39 + (i + 1)) := by
        split
        · exact ⟨N * 10 - 1, by omega, by omega, by omega⟩
        · exact ⟨N * 10, by omega, by omega, n4⟩
      rw [eM]
      exact ⟨⟨M, _, _, rfl, m1, m2⟩, rfl⟩
    · obtain ⟨⟨N, x2, x3, rfl, n1, n2⟩, rfl⟩ := e
      have n3 : N < 10 ^ 42 := Nat.lt_of_lt_of_le n2 (Nat.pow_le_pow_right (by decide) (by omega))
      have lg : ((N : Nat) : Int).natAbs.log2 < 1920 := by
        rw [Int.natAbs_natCast]
        exact Nat.lt_of_lt_of_le (PySem.Flt.log2_lt_of (k := 150) (by decide) (Nat.lt_trans n3 (by decide))) (by decide)
      have s2 : Same (hide H p) (hide H' p) := (offs o1).trans (offs o2)
      have rd : rdAll 20 (cs (Str.ofString (toString ((N : Nat) : Int)))) = some (.num N) := rd_num N
      refine ⟨_, rfl, _, rfl, lg, _, rfl, fit_num n3, fun t et H3 v s3 hv => ?_, fun e => by rw [rd] at e; cases e⟩
      rw [rd] at et
      obtain rfl := Option.some.inj et
      refine ⟨_, rfl, _, rfl, (by decide : 2 ≤ sizeLine), fun T nT => ?_⟩
      have s4 := same_upd (o := .tup [.str "number", .int ((N : Nat) : Int)]) nT
      have hT : Dp K (L2.upd H3 T (.tup [.str "number", .int ((N : Nat) : Int)])) (.ref T) (Sm.num N).d := .tup (SqT.of upd_same) (.cons (.str _) (.cons (.int _) .nil))
      refine ⟨v, .ref T, (Sm.num N).d, rfl, dp_same s4 hv, hT, sm_pl (t := .num N) (n := 0) (Nat.le_refl _), fun H5 s5 => ⟨_, rfl, if_yes rfl ⟨_, rfl, ?_⟩⟩⟩
      have s35 := s3.trans (s4.trans s5)
      exact k H5 v N (s2.trans (hide_mono s35)) ((u2.same s35).le (by omega)) (dp_same (s4.trans s5) hv)
end
end Qb
end PySem
namespace PySem
namespace Qb
open PySem.W PySem.Calls PyProof.Rows L2
/-! # leaves -/
theorem sqT_hide {K : Frag} {H : Hp} {a c : Addr} {xs ys : List V} (h : H a = some (.lst ys)) (q : SqT K H c xs) : SqT K (hide H a) c xs := by
  rcases q with (q | ⟨o, q⟩) | q
  · exact .inl (.inl (hide_ne q fun z => by rw [z, h] at q; cases q))
  · exact .inl (.inr ⟨o, hide_ne q fun z => by rw [z, h] at q; cases q⟩)
  · exact .inr q
theorem sm_hide {K : Frag} {H : Hp} {a : Addr} {ys : List V} (h : H a = some (.lst ys)) : ∀ {t : Sm} {v : V}, Dp K H v t.d → Dp K (hide H a) v t.d
  | .num n, v, d => by
    obtain ⟨c, rfl, q⟩ := dp_num d
    exact .tup (sqT_hide h q) (.cons (.str _) (.cons (.int _) .nil))
  | .of w, v, d => by
    obtain ⟨c, rfl, q⟩ := dp_of d
    exact .tup (sqT_hide h q) (.cons (.str _) (.cons (.str _) .nil))
  | .one s x, v, d => by
    obtain ⟨c, y, rfl, q, hy⟩ := pc_two d
    exact .tup (sqT_hide h q) (.cons (.str _) (.cons (sm_hide h hy) .nil))
  | .two s x1 x2, v, d => by
    obtain ⟨c, y1, y2, rfl, q, h1, h2⟩ := pc_three d
    exact .tup (sqT_hide h q) (.cons (.str _) (.cons (sm_hide h h1) (.cons (sm_hide h h2) .nil)))
  | .three s x1 x2 x3, v, d => by
    obtain ⟨c, y1, y2, y3, rfl, q, h1, h2, h3⟩ := pc_four d
    exact .tup (sqT_hide h q) (.cons (.str _) (.cons (sm_hide h h1) (.cons (sm_hide h h2) (.cons (sm_hide h h3) .nil))))
/-- nothing is asked of the numbers -/
def Sm.tiny : Sm → Prop
  | .num _ => True
  | .of _ => True
  | .one _ a => a.tiny
  | .two _ a b => a.tiny ∧ b.tiny
  | .three _ a b c => a.tiny ∧ b.tiny ∧ c.tiny
structure Lfy (t : Sm) : Prop where
  h0 : t.ht = 0
  ok : t.ok = true
  fine : t.fine
  wok : t.wok
  tiny : t.tiny
  n1 : t.nms.length ≤ 1
theorem lf_num (m : Nat) : Lfy (.num m) := ⟨rfl, decide_eq_true (show (0 : Int) ≤ (m : Nat) by omega), trivial, trivial, trivial, Nat.zero_le _⟩
theorem lf_gw {w : Str} (h : gw w) : Lfy (.of w) := by
  rcases h with h | h
  · refine ⟨rfl, ?_, ?_, ?_, trivial, Nat.le_refl _⟩
    · show (isNameB (cs w) || _) = true
      rw [name_nm, h.1]
      rfl
    · show w.length ≤ 100000
      have := h.2
      omega
    · refine ⟨by have := h.2; omega, .inl ?_⟩
      unfold named
      rw [h.1]
      rfl
  · have key : ∀ w ∈ wSp, (Sm.of w).ok = true ∧ w.length ≤ 80 ∧ named w = true := by decide +kernel
    obtain ⟨a, b, c⟩ := key w h
    exact ⟨rfl, a, Nat.le_trans b (by decide), ⟨b, .inl c⟩, trivial, Nat.le_refl _⟩
theorem gw_ok {w : Str} (h : gw w) : PyData.strOk w = true := by
  rcases h with h | h
  · exact h.str
  · exact (by decide +kernel : ∀ w ∈ wSp, PyData.strOk w = true) w h
def numW : List Str := ["1", "2", "3", "4", "5", "6", "7", "8", "9", "10", "11", "12", "13"]
theorem numW_at : ∀ i < 13, numW[i]? = some (Str.ofString (toString (1 + ((i : Nat) : Int)))) := by decide +kernel
theorem lf_numW : ∀ w ∈ numW, Lfy (.of w) := fun w m => by
  have key : ∀ w ∈ numW, (Sm.of w).ok = true ∧ w.length ≤ 80 ∧ cs w ≠ [] ∧ (∀ c ∈ cs w, c ∈ digC) ∧ (cs w).head? ≠ some 48 := by decide +kernel
  obtain ⟨a, b, c⟩ := key w m
  exact ⟨rfl, a, Nat.le_trans b (by decide), ⟨b, .inr c⟩, trivial, Nat.le_refl _⟩
def spLf (K : Frag) : Sp := fun vs H Q _ => ∃ (p W : Addr) (n : Nat) (ws : List Str), vs = [.ref p, .ref W] ∧ n ≤ 8900 ∧ Pu H p n ∧ H W = some (.lst (ws.map V.str)) ∧ W ≠ p ∧ (ws = [] ∨ ws.length = 11) ∧ (∀ w ∈ ws, gw w) ∧
  ∀ (H' : Hp) (v : V) (t : Sm), Same (hide H p) (hide H' p) → Pu H' p (n + 10) → Dp K H' v t.d → Lfy t → Q v H'
section
variable {P : Program} {w : World} {K : Frag} {mg : Str → Option Value} {base : Heap}
abbrev sLf : Stmt := top 63
abbrev nLf : List Str := ["_law_purse_here", "_law_words_here", "_law_way", "_law_some", "_law_k"]
theorem scLf : FnScope nLf ["_law_purse_here", "_law_words_here"] (defScope sLf) := ⟨rfl, rfl, rfl, by decide +kernel, rfl, by decide +kernel, by decide +kernel⟩
theorem has_Lf {f : Addr} {fd : FuncData}  (F : Fun K "_law_leaf" "_law_leaf" sLf f fd) (g : mg "_law_leaf" = some (.ref f)) (B : Blt mg) (hCo : Has P w K mg base 1 "_law_coin" ["_law_purse_here", "_law_many"] (spCo)) (hGt : Has P w K mg base 28 "_law_great" ["_law_purse_here"] (spGt K)) :
    Has P w K mg base 29 "_law_leaf" ["_law_purse_here", "_law_words_here"] (spLf K) := by
  obtain ⟨fCo, dCo, gCo, kCo, bCo, GCo⟩ := hCo
  obtain ⟨fGt, dGt, gGt, kGt, bGt, GGt⟩ := hGt
  refine has_of F g (F.binds (ps := ["_law_purse_here", "_law_words_here"]) fun _ _ _ _ _ _ us hl => match us, hl with | [_, _], _ => rfl) (F.ok scLf (fun vs H Q E h => ?_) (fun cdv A outer s H vs Q E hr h => ?_))
  · obtain ⟨p, W, n, ws, rfl, _⟩ := h
    rfl
  · refine ⟨_, (pss_cons (ps_set (i := 2) scLf.nd rfl (.inl rfl) (pe_call GCo (hr.mono (by decide)) rfl gCo kCo bCo .nil pass0 (pa_cons (pv 0) (pa_cons pe_int pa_nil))))
        (pss_cons (ps_weak (ps_if (PW.pt (pw_and (pt_cmpR (op_neD hr.units) (pv 1) (pe_lst pa_nil) (nomark _)) (pw_and1 (pt_cmpR op_lt (pv 2) pe_int (nomark _))))) (pss_cons (ps_set (i := 3) scLf.nd rfl (.inl rfl) (pe_op op_cat (pv 1) (pe_lc (own := [("_law_k", 4)]) (g := gName 4) (tt := tYes) rfl scLf.nd (pi_range2 (by rfl) B.range (pa_cons pe_int (pa_cons pe_int pa_nil))) (blkOk_by (N := nLf) (sc := defScope sLf) (by decide +kernel)) (fun _ _ _ _ _ => pg_name (i := 4) scLf.nd rfl (.inl rfl)) (fun _ _ _ _ _ => pts_nil) (fun _ _ _ _ _ => (pe_callTy call_str_int (by rfl) B.str (by decide +kernel) (pa_cons (pv 4) pa_nil))))))
          (pss_one (ps_ret (pe_tup (pa_cons pe_str (pa_cons (pe_ix ix_list (pv 3) (pe_ix ix_list (pe_lst (pa_cons (pe_call GCo (hr.mono (by decide)) rfl gCo kCo bCo .nil pass0 (pa_cons (pv 0) (pa_cons pe_int pa_nil))) (pa_cons (pe_call GCo (hr.mono (by decide)) rfl gCo kCo bCo .nil pass0 (pa_cons (pv 0) (pa_cons pe_int pa_nil))) (pa_cons (pe_op op_add pe_int (pe_call GCo (hr.mono (by decide)) rfl gCo kCo bCo .nil pass0 (pa_cons (pv 0) (pa_cons pe_int pa_nil)))) pa_nil)))) (pv 2) (fun _ _ => rfl)) (fun _ _ => rfl)) pa_nil)))))) pss_nil))
        (pss_cons (ps_if (pt_cmpR op_eq (pv 2) pe_int (nomark _)) (pss_one (ps_ret (pe_tup (pa_cons pe_str (pa_cons (pe_call GCo (hr.mono (by decide)) rfl gCo kCo bCo .nil pass0 (pa_cons (pv 0) (pa_cons (pe_op op_add (pe_op op_pow pe_int pe_int) pe_int) pa_nil))) pa_nil))))) pss_nil)
        (pss_cons (ps_weak (ps_if (PW.pt (pw_and (pt_cmpR op_eq (pv 2) pe_int (nomark _)) (pw_and1 (pt_cmpR op_eq (pe_call GCo (hr.mono (by decide)) rfl gCo kCo bCo .nil pass0 (pa_cons (pv 0) (pa_cons pe_int pa_nil))) pe_int (nomark _))))) (pss_one (ps_ret (pe_call GGt hr rfl gGt kGt bGt .nil pass0 (pa_cons (pv 0) pa_nil)))) pss_nil))
        (pss_one (ps_ret (pe_tup (pa_cons pe_str (pa_cons (pe_ix ix_list (pe_lst (pa_cons pe_int (pa_cons pe_int (pa_cons pe_int (pa_cons pe_int (pa_cons pe_int (pa_cons (pe_op op_pow pe_int pe_int) pa_nil))))))) (pe_call GCo (hr.mono (by decide)) rfl gCo kCo bCo .nil pass0 (pa_cons (pv 0) (pa_cons pe_int pa_nil))) (fun _ _ => rfl)) pa_nil))))))))), ?_⟩
    obtain ⟨p, W, n, ws, rfl, hn, u, hW, neW, lw, okw, k⟩ := h
    refine ⟨_, rfl, p, 6, _, rfl, by decide, by decide, by omega, u, fun H1 r hr1 u1 o1 => ?_⟩
    have s1 := offs o1
    have hW1 : H1 W = some (.lst (ws.map V.str)) := by rw [o1 W neW]; exact hW
    refine ⟨fun σ' H2 => ∃ x3 x4 : Option V, σ' = [some (.ref p), some (.ref W), some (.int ((r : Nat) : Int)), x3, x4] ∧ Pu H2 p (n + 1) ∧ Same (hide H p) (hide H2 p), ?_, ?_⟩
    rotate_left
    · refine ⟨_, rfl, (by decide : 0 ≤ sizeLine), fun T nT => ?_⟩
      have neT : W ≠ T := fun z => by rw [← z, hW1] at nT; cases nT
      have nTp := u1.ne nT
      have u2 := u1.put (o := .lst []) nTp
      have s2 := s1.trans (hide_mono (same_upd (o := .lst []) nT))
      have hW2 : (L2.upd H1 T (.lst [])) W = some (.lst (ws.map V.str)) := by rw [upd_ne neT]; exact hW1
      have hT2 : (L2.upd H1 T (.lst [])) T = some (.lst []) := upd_same
      generalize L2.upd H1 T (.lst []) = H2 at u2 s2 hW2 hT2 ⊢
      refine ⟨.list (ws.map PyData.str), .list [], .lst (SqL.of hW2) (dpStrs ws), .lst (SqL.of hT2) .nil, sh_strs fun w m => gw_ok (okw w m), by decide, _, rfl, ?_⟩
      rw [eqv_nil]
      rcases lw with rfl | lw
      · exact if_no rfl (if_no rfl ⟨_, _, rfl, u2, s2⟩)
      refine if_yes (by cases ws with | nil => cases lw | cons => rfl) ?_
      refine ⟨_, rfl, _, _, rfl, rfl, _, rfl, if_by (fun e3 => ?_) (fun _ => ⟨_, _, rfl, u2, s2⟩)⟩
      · have hr3 : r < 3 := by
          have := of_decide_eq_true e3
          omega
        refine ⟨_, rfl, 1, 14, rfl, by decide, fun D hD => ?_⟩
        have neD : W ≠ D := fun z => by rw [← z, hW2] at hD; cases hD
        have nDp := u2.ne hD
        refine lc_it (walk_range (lo := 1) (n := 13)) (fun i H' => H' = L2.upd H2 D (.lst ((numW.take i).map V.str))) rfl (fun _ _ _ _ => trivial) (fun i x H' H3 hi e y => ?_) (fun H' e => ?_)
        · subst e
          obtain ⟨rfl, rfl⟩ := y
          refine ⟨rfl, _, rfl, _, rfl, Nat.lt_of_le_of_lt (Nat.log2_le_self _) (by omega), _, upd_same, ?_, ?_⟩
          · rw [List.length_map, List.length_take]
            exact Nat.lt_of_le_of_lt (Nat.min_le_right _ _) (by decide)
          · rw [upd_upd, show (numW.take (i + 1)) = numW.take i ++ [Str.ofString (toString (1 + ((i : Nat) : Int)))] from take_snoc (numW_at i hi), List.map_append]
            rfl
        · subst e
          have eD : numW.take 13 = numW := rfl
          rw [eD]
          have u3 := u2.put (o := .lst (numW.map V.str)) nDp
          have s3 := s2.trans (hide_mono (same_upd (o := .lst (numW.map V.str)) hD))
          have hW3 : (L2.upd H2 D (.lst (numW.map V.str))) W = some (.lst (ws.map V.str)) := by rw [upd_ne neD]; exact hW2
          have hD3 : (L2.upd H2 D (.lst (numW.map V.str))) D = some (.lst (numW.map V.str)) := upd_same
          generalize L2.upd H2 D (.lst (numW.map V.str)) = H3 at u3 s3 hW3 hD3 ⊢
          refine ⟨W, D, _, _, rfl, rfl, hW3, hD3, ?_, fun S nS => ?_⟩
          · rw [List.length_map, lw]
            exact (by decide : 11 + 13 ≤ sizeLine)
          have nSp := u3.ne nS
          have u4 := u3.put (o := .lst (ws.map V.str ++ numW.map V.str)) nSp
          have s4 := s3.trans (hide_mono (same_upd (o := .lst (ws.map V.str ++ numW.map V.str)) nS))
          have hS4 : (L2.upd H3 S (.lst (ws.map V.str ++ numW.map V.str))) S = some (.lst ((ws ++ numW).map V.str)) := by rw [List.map_append]; exact upd_same
          generalize L2.upd H3 S (.lst (ws.map V.str ++ numW.map V.str)) = H4 at u4 s4 hS4 ⊢
          have lS : (ws ++ numW).length = 24 := by rw [List.length_append, lw]; rfl
          refine ⟨_, rfl, _, rfl, p, 24, _, rfl, by decide, by decide, by omega, u4, fun H5 r5 hr5 u5 o5 => ?_⟩
          refine ⟨_, rfl, p, 3, _, rfl, by decide, by decide, by omega, u5, fun H6 r6 hr6 u6 o6 => ?_⟩
          refine ⟨_, rfl, p, 3, _, rfl, by decide, by decide, by omega, u6, fun H7 r7 hr7 u7 o7 => ?_⟩
          refine ⟨_, _, rfl, rfl, (by decide : 3 ≤ sizeLine), fun L nL => ?_⟩
          dsimp only at nL ⊢
          have hS7 : H7 S = some (.lst ((ws ++ numW).map V.str)) := by rw [o7 S nSp, o6 S nSp, o5 S nSp]; exact hS4
          have neSL : S ≠ L := fun z => by rw [← z, hS7] at nL; cases nL
          have nLp := u7.ne nL
          have u8 := u7.put (o := .lst [.int ((r5 : Nat) : Int), .int ((r6 : Nat) : Int), .int (11 + ((r7 : Nat) : Int))]) nLp
          have s8 := s4.trans ((offs o5).trans ((offs o6).trans ((offs o7).trans (hide_mono (same_upd (o := .lst [.int ((r5 : Nat) : Int), .int ((r6 : Nat) : Int), .int (11 + ((r7 : Nat) : Int))]) nL)))))
          have hL8 : (L2.upd H7 L (.lst [.int ((r5 : Nat) : Int), .int ((r6 : Nat) : Int), .int (11 + ((r7 : Nat) : Int))])) L = some (.lst [.int ((r5 : Nat) : Int), .int ((r6 : Nat) : Int), .int (11 + ((r7 : Nat) : Int))]) := upd_same
          have hS8 : (L2.upd H7 L (.lst [.int ((r5 : Nat) : Int), .int ((r6 : Nat) : Int), .int (11 + ((r7 : Nat) : Int))])) S = some (.lst ((ws ++ numW).map V.str)) := by rw [upd_ne neSL]; exact hS7
          generalize L2.upd H7 L (.lst [.int ((r5 : Nat) : Int), .int ((r6 : Nat) : Int), .int (11 + ((r7 : Nat) : Int))]) = H8 at u8 s8 hL8 hS8 ⊢
          obtain ⟨q, hq, lq⟩ : ∃ q : Nat, [V.int ((r5 : Nat) : Int), .int ((r6 : Nat) : Int), .int (11 + ((r7 : Nat) : Int))][r]? = some (V.int ((q : Nat) : Int)) ∧ q < 24 := by
            rcases (by omega : r = 0 ∨ r = 1 ∨ r = 2) with rfl | rfl | rfl
            · exact ⟨r5, rfl, hr5⟩
            · exact ⟨r6, rfl, by omega⟩
            · exact ⟨11 + r7, congrArg (fun z => some (V.int z)) (by omega), by omega⟩
          obtain ⟨w, mw, hw⟩ := pick_of (ws ++ numW) (r := q) (by omega)
          have lf : Lfy (.of w) := by
            rcases List.mem_append.mp mw with m | m
            · exact lf_gw (okw w m)
            · exact lf_numW w m
          refine ⟨_, rfl, L, _, _, _, rfl, rfl, SqL.of hL8, atI_nat hq, S, _, _, _, rfl, rfl, SqL.of hS8, atI_nat hw, (by decide : 2 ≤ sizeLine), fun U nU => ?_⟩
          have s9 := same_upd (o := .tup [.str "of", .str w]) nU
          exact k _ _ (.of w) (s8.trans (hide_mono s9)) ((u8.same s9).le (by omega)) (.tup (SqT.of upd_same) (.cons (.str _) (.cons (.str _) .nil))) lf
    rintro σ' H2 ⟨y3, y4, rfl, u2, s2⟩
    refine ⟨_, rfl, rfl, _, rfl, if_by (fun _ => ?_) (fun _ => ?_)⟩
    · refine ⟨_, rfl, _, _, rfl, rfl, ⟨by decide, by decide, by decide⟩, _, _, rfl, rfl, p, 10 ^ 18 + 1, _, ?_, by decide, by decide, by omega, u2, fun H3 r3 hr3 u3 o3 => ?_⟩
      · rfl
      refine ⟨(by decide : 2 ≤ sizeLine), fun T3 nT3 => ?_⟩
      have s4 := same_upd (o := .tup [.str "number", .int ((r3 : Nat) : Int)]) nT3
      exact k _ _ (.num r3) (s2.trans ((offs o3).trans (hide_mono s4))) ((u3.same s4).le (by omega)) (.tup (SqT.of upd_same) (.cons (.str _) (.cons (.int _) .nil))) (lf_num r3)
    refine ⟨fun σ' H' => ∃ x2 x3 x4 : Option V, σ' = [some (.ref p), some (.ref W), x2, x3, x4] ∧ Pu H' p (n + 2) ∧ Same (hide H p) (hide H' p), ?_, ?_⟩
    · rintro σ' H4 ⟨x2, x3, x4, rfl, u4, s4⟩
      refine ⟨_, _, rfl, rfl, ⟨by decide, by decide, by decide⟩, (by decide : 6 ≤ sizeLine), fun L nL => ?_⟩
      dsimp only at nL ⊢
      have nLp := u4.ne nL
      have u5 := u4.put (o := .lst [.int 0, .int 1, .int 2, .int 3, .int 7, .int (10 ^ (18 : Int).toNat)]) nLp
      have s5 := s4.trans (hide_mono (same_upd (o := .lst [.int 0, .int 1, .int 2, .int 3, .int 7, .int (10 ^ (18 : Int).toNat)]) nL))
      have hL5 : (L2.upd H4 L (.lst [.int 0, .int 1, .int 2, .int 3, .int 7, .int (10 ^ (18 : Int).toNat)])) L = some (.lst [.int 0, .int 1, .int 2, .int 3, .int 7, .int (10 ^ (18 : Int).toNat)]) := upd_same
      generalize L2.upd H4 L (.lst [.int 0, .int 1, .int 2, .int 3, .int 7, .int (10 ^ (18 : Int).toNat)]) = H5 at u5 s5 hL5 ⊢
      refine ⟨_, rfl, p, 6, _, rfl, by decide, by decide, by omega, u5, fun H6 r6 hr6 u6 o6 => ?_⟩
      have hL6 := (o6 L nLp).trans hL5
      obtain ⟨q, hq⟩ : ∃ q : Nat, [V.int 0, .int 1, .int 2, .int 3, .int 7, .int (10 ^ (18 : Int).toNat)][r6]? = some (V.int ((q : Nat) : Int)) := by
        rcases (by omega : r6 = 0 ∨ r6 = 1 ∨ r6 = 2 ∨ r6 = 3 ∨ r6 = 4 ∨ r6 = 5) with rfl | rfl | rfl | rfl | rfl | rfl
        · exact ⟨0, rfl⟩
        · exact ⟨1, rfl⟩
        · exact ⟨2, rfl⟩
        · exact ⟨3, rfl⟩
        · exact ⟨7, rfl⟩
        · exact ⟨10 ^ 18, rfl⟩
      refine ⟨L, _, _, _, rfl, rfl, SqL.of hL6, atI_nat hq, (by decide : 2 ≤ sizeLine), fun U nU => ?_⟩
      have s7 := same_upd (o := .tup [.str "number", .int ((q : Nat) : Int)]) nU
      exact k _ _ (.num q) (s5.trans ((offs o6).trans (hide_mono s7))) ((u6.same s7).le (by omega)) (.tup (SqT.of upd_same) (.cons (.str _) (.cons (.int _) .nil))) (lf_num q)
    · refine ⟨_, rfl, rfl, _, rfl, if_by (fun _ => ?_) (fun _ => if_no rfl ⟨_, _, _, rfl, u2.le (by omega), s2⟩)⟩
      refine ⟨_, rfl, p, 4, _, rfl, by decide, by decide, by omega, u2, fun H3 r3 hr3 u3 o3 => ?_⟩
      refine ⟨rfl, _, rfl, if_by (fun _ => ?_) (fun _ => ⟨_, _, _, rfl, u3.le (by omega), s2.trans (offs o3)⟩)⟩
      exact ⟨_, rfl, p, _, rfl, by omega, u3, fun H4 v m s4 u4 hv => k H4 v (.num m) (s2.trans ((offs o3).trans s4)) (u4.le (by omega)) hv (lf_num m)⟩
end
end Qb
end PySem
namespace PySem
namespace Qb
open PySem.W PySem.Calls PyProof.Rows L2
/-! # a sum, drawn -/
abbrev kd16 : List Str := ["leaf", "leaf", "minus", "no", "choose", "*", "/", "^", "+", "-", "<", "<=", ">", ">=", "==", "!="]
abbrev kd18 : List Str := kd16 ++ (["&&", "||"] : List Str)
def manyOf (k : Str) : Nat := if k = "leaf" then 0 else if k = "minus" ∨ k = "no" then 1 else if k = "choose" then 3 else 2
theorem many_get : ∀ k ∈ kd18, (valV (mergeK [] [((Sum.inr "leaf" : Key), V.int 0), (Sum.inr "minus", .int 1), (Sum.inr "no", .int 1), (Sum.inr "choose", .int 3)]) (Sum.inr k)).getD (.int 2) = .int ((manyOf k : Nat) : Int) := by decide +kernel
def mkS (k : Str) : List Sm → Sm
  | [a] => .one k a
  | [a, b] => .two k a b
  | [a, b, c] => .three k a b c
  | _ => .num 0
structure Gd (t : Sm) : Prop where
  ok : t.ok = true
  fine : t.fine
  wok : t.wok
  tiny : t.tiny
theorem Lfy.gd {t : Sm} (h : Lfy t) : Gd t := ⟨h.ok, h.fine, h.wok, h.tiny⟩
theorem kd_one : ∀ k ∈ kd18, manyOf k = 1 → (k == "minus" || k == "no") = true ∧ k ≠ "number" ∧ k ≠ "of" := by decide +kernel
theorem kd_two : ∀ k ∈ kd18, manyOf k = 2 → isOp k = true := by decide +kernel
theorem kd_three : ∀ k ∈ kd18, manyOf k = 3 → (k == "choose") = true := by decide +kernel
theorem mkS_of {k : Str} (hk : k ∈ kd18) {ts : List Sm} (hl : ts.length = manyOf k) (h0 : manyOf k ≠ 0) {m : Int} (h : ∀ t ∈ ts, Gd t ∧ (t.ht : Int) + 1 ≤ m) :
    (mkS k ts).d = .tuple (.str k :: ts.map Sm.d) ∧ Gd (mkS k ts) ∧ ((mkS k ts).ht : Int) + 1 ≤ 1 + m ∧ (mkS k ts).nms = nmsAll ts := by
  match ts, hl, h with
  | [], hl, h => exact (h0 hl.symm).elim
  | [a], hl, h =>
    obtain ⟨x, y, z⟩ := kd_one k hk hl.symm
    obtain ⟨ga, ha⟩ := h a (by simp)
    refine ⟨rfl, ⟨?_, ⟨y, z, ga.fine⟩, ga.wok, ga.tiny⟩, ?_, by simp [mkS, nmsAll, Sm.nms]⟩
    · show ((k == "minus" || k == "no") && a.ok) = true
      rw [x, ga.ok]; rfl
    · show ((1 + a.ht : Nat) : Int) + 1 ≤ _
      omega
  | [a, b], hl, h =>
    have x := kd_two k hk hl.symm
    obtain ⟨ga, ha⟩ := h a (by simp)
    obtain ⟨gb, hb⟩ := h b (by simp)
    refine ⟨rfl, ⟨?_, ⟨ga.fine, gb.fine⟩, ⟨ga.wok, gb.wok⟩, ⟨ga.tiny, gb.tiny⟩⟩, ?_, by simp [mkS, nmsAll, Sm.nms]⟩
    · show (isOp k && (a.ok && b.ok)) = true
      rw [x, ga.ok, gb.ok]; rfl
    · show ((1 + max a.ht b.ht : Nat) : Int) + 1 ≤ _
      omega
  | [a, b, c], hl, h =>
    have x := kd_three k hk hl.symm
    obtain ⟨ga, ha⟩ := h a (by simp)
    obtain ⟨gb, hb⟩ := h b (by simp)
    obtain ⟨gc, hc⟩ := h c (by simp)
    refine ⟨rfl, ⟨?_, ⟨ga.fine, gb.fine, gc.fine⟩, ⟨ga.wok, gb.wok, gc.wok⟩, ⟨ga.tiny, gb.tiny, gc.tiny⟩⟩, ?_, by simp [mkS, nmsAll, Sm.nms]⟩
    · show ((k == "choose") && (a.ok && (b.ok && c.ok))) = true
      rw [x, ga.ok, gb.ok, gc.ok]; rfl
    · show ((1 + max a.ht (max b.ht c.ht) : Nat) : Int) + 1 ≤ _
      omega
  | a :: b :: c :: d :: r, hl, h =>
    have z : ∀ k ∈ kd18, manyOf k ≤ 3 := by decide +kernel
    have := z k hk
    rw [← hl] at this
    simp at this
/-- an entry of the pool -/
structure En where
  t : Sm
  k : Int
  z : Int
def En.d (e : En) : PyData := .list [e.t.d, .int e.k, .int e.z]
structure En.good (e : En) : Prop where
  gd : Gd e.t
  ht : (e.t.ht : Int) + 1 ≤ e.k
  k12 : e.k ≤ 12
  nl : (e.t.nms.length : Int) ≤ e.z
  z40 : e.z ≤ 40
theorem en_leaf {t : Sm} (h : Lfy t) : (En.mk t 1 1).good := ⟨h.gd, by show (t.ht : Int) + 1 ≤ 1; rw [h.h0]; decide, by show (1 : Int) ≤ 12; decide, by have := h.n1; show (t.nms.length : Int) ≤ 1; omega, by show (1 : Int) ≤ 40; decide⟩
theorem sum_nms : ∀ {ps : List En}, (∀ e ∈ ps, e.good) → (((nmsAll (ps.map En.t)).length : Nat) : Int) ≤ (ps.map En.z).sum
  | [], _ => Int.le_refl _
  | e :: ps, h => by
    have ih := sum_nms (ps := ps) fun x m => h x (.tail _ m)
    have g := (h e (.head _)).nl
    have en : nmsAll ((e :: ps).map En.t) = e.t.nms ++ nmsAll (ps.map En.t) := by simp [nmsAll]
    rw [en, List.length_append, List.map_cons, List.sum_cons]
    omega
theorem gw_str {w : Str} (h : okW w) : PyData.strOk w = true := strOk_lt fun c m => by
  have nl : ∀ c ∈ namC, c < 1114112 := by decide +kernel
  rcases h.2 with h | ⟨_, h, _⟩
  · unfold named at h
    rw [Bool.or_eq_true] at h
    rcases h with h | h
    · obtain ⟨a, r, e, ma, mr⟩ := nm_cons h
      rw [e] at m
      rcases List.mem_cons.mp m with rfl | m
      · exact nl c (sta_nam c ma)
      · exact nl c (mr c m)
    · exact (by decide +kernel : ∀ w ∈ wSp, ∀ c ∈ cs w, c < 1114112) w (of_decide_eq_true h) c m
  · exact (by decide : ∀ c ∈ digC, c < 1114112) c (h c m)
theorem sh_int {i : Int} : Sh 0 (.int i) := ⟨by first | rfl | rw [PyData.canLay0.eq_3] | simp [PyData.canLay0], Nat.le_of_eq rfl⟩
theorem sh_sm : ∀ {t : Sm}, Gd t → Sh (t.ht + 1) t.d
  | .num n, _ => sh_tup (n := 0) fun d m => by
    rcases List.mem_cons.mp m with rfl | m
    · exact sh_str (by decide +kernel)
    · rw [List.mem_singleton.mp m]; exact sh_int
  | .of w, h => sh_tup (n := 0) fun d m => by
    rcases List.mem_cons.mp m with rfl | m
    · exact sh_str (by decide +kernel)
    · rw [List.mem_singleton.mp m]; exact sh_str (gw_str h.wok)
  | .one s a, h => by
    have o : ((s == "minus" || s == "no") && a.ok) = true := h.ok
    rw [Bool.and_eq_true, Bool.or_eq_true] at o
    have st : PyData.strOk s = true := by
      rcases o.1 with z | z
      · rw [eq_of_beq z]; decide +kernel
      · rw [eq_of_beq z]; decide +kernel
    have ha := sh_sm (t := a) ⟨o.2, h.fine.2.2, h.wok, h.tiny⟩
    have e : (Sm.one s a).ht = 1 + a.ht := rfl
    rw [e, show 1 + a.ht + 1 = (a.ht + 1) + 1 by omega]
    refine sh_tup fun d m => ?_
    rcases List.mem_cons.mp m with rfl | m
    · exact sh_mono (sh_str st) (by omega)
    · rw [List.mem_singleton.mp m]; exact ha
  | .two s a b, h => by
    have o : (isOp s && (a.ok && b.ok)) = true := h.ok
    rw [Bool.and_eq_true, Bool.and_eq_true] at o
    have st : PyData.strOk s = true := by
      obtain ⟨c, m⟩ := op_tpk o.1
      exact (by decide +kernel : ∀ p ∈ tpk, PyData.strOk p.1 = true) _ m
    have ha := sh_sm (t := a) ⟨o.2.1, h.fine.1, h.wok.1, h.tiny.1⟩
    have hb := sh_sm (t := b) ⟨o.2.2, h.fine.2, h.wok.2, h.tiny.2⟩
    have e : (Sm.two s a b).ht = 1 + max a.ht b.ht := rfl
    refine sh_mono (n := (max a.ht b.ht + 1) + 1) (sh_tup fun d m => ?_) (by omega)
    rcases List.mem_cons.mp m with rfl | m
    · exact sh_mono (sh_str st) (by omega)
    rcases List.mem_cons.mp m with rfl | m
    · exact sh_mono ha (by omega)
    · rw [List.mem_singleton.mp m]; exact sh_mono hb (by omega)
  | .three s a b c, h => by
    have o : ((s == "choose") && (a.ok && (b.ok && c.ok))) = true := h.ok
    rw [Bool.and_eq_true, Bool.and_eq_true, Bool.and_eq_true] at o
    have st : PyData.strOk s = true := by rw [eq_of_beq o.1]; decide +kernel
    have ha := sh_sm (t := a) ⟨o.2.1, h.fine.1, h.wok.1, h.tiny.1⟩
    have hb := sh_sm (t := b) ⟨o.2.2.1, h.fine.2.1, h.wok.2.1, h.tiny.2.1⟩
    have hc := sh_sm (t := c) ⟨o.2.2.2, h.fine.2.2, h.wok.2.2, h.tiny.2.2⟩
    have e : (Sm.three s a b c).ht = 1 + max a.ht (max b.ht c.ht) := rfl
    refine sh_mono (n := (max a.ht (max b.ht c.ht) + 1) + 1) (sh_tup fun d m => ?_) (by omega)
    rcases List.mem_cons.mp m with rfl | m
    · exact sh_mono (sh_str st) (by omega)
    rcases List.mem_cons.mp m with rfl | m
    · exact sh_mono ha (by omega)
    rcases List.mem_cons.mp m with rfl | m
    · exact sh_mono hb (by omega)
    · rw [List.mem_singleton.mp m]; exact sh_mono hc (by omega)
theorem sh_en {es : List En} (h : ∀ e ∈ es, e.good) : SeqAt.shaped (.list (es.map En.d)) = true :=
  sh_ok (n := 14 + 1) (sh_lst fun d md => by
    obtain ⟨e, me, rfl⟩ := List.mem_map.mp md
    have g := h e me
    have l : e.t.ht + 1 ≤ 12 := by
      have := g.ht
      have := g.k12
      omega
    refine sh_mono (n := 12 + 1) (sh_lst fun d m => ?_) (by decide)
    rcases List.mem_cons.mp m with rfl | m
    · exact sh_mono (sh_sm g.gd) l
    rcases List.mem_cons.mp m with rfl | m
    · exact sh_mono sh_int (by decide)
    · rw [List.mem_singleton.mp m]; exact sh_mono sh_int (by decide)) (by decide)
theorem hide_none {H : Hp} {a b : Addr} (h : H a = none) : hide H b a = none := by
  unfold hide
  split
  · rfl
  · exact h
theorem lf_hide {K : Frag} {H : Hp} {a : Addr} {v : V} {t : Sm} {ys : List V} (l : t.ht = 0) (h : H a = some (.lst ys)) (d : Dp K H v t.d) : Dp K (hide H a) v t.d := by
  cases t with
  | num n =>
    obtain ⟨c, rfl, q⟩ := dp_num d
    exact .tup (sqT_hide h q) (.cons (.str _) (.cons (.int _) .nil))
  | of w =>
    obtain ⟨c, rfl, q⟩ := dp_of d
    exact .tup (sqT_hide h q) (.cons (.str _) (.cons (.str _) .nil))
  | one s a => exact absurd (show 1 + a.ht = 0 from l) (by omega)
  | two s a b => exact absurd (show 1 + max a.ht b.ht = 0 from l) (by omega)
  | three s a b c => exact absurd (show 1 + max a.ht (max b.ht c.ht) = 0 from l) (by omega)
theorem hide_put3 {H : Hp} {a b c : Addr} {o : HO} : Same (hide (hide (hide H a) b) c) (hide (hide (hide (L2.upd H c o) a) b) c) := fun d u h => by
  unfold hide at h ⊢
  by_cases e : d = c
  · rw [if_pos e] at h; cases h
  · rw [if_neg e] at h ⊢
    rw [upd_ne e]
    exact h
theorem atI_neg1 {xs : List V} {v : V} (h : xs[xs.length - 1]? = some v) : atI xs (-1) = some v := by
  rcases List.eq_nil_or_concat xs with rfl | ⟨ys, y, rfl⟩
  · cases h
  · simp at h
    subst h
    rw [List.concat_eq_append]
    exact atI_last ys y
theorem en_read {K : Frag} {H : Hp} {v : V} {e : En} (h : Dp K H v e.d) : ∃ a vt, v = .ref a ∧ SqL K H a [vt, .int e.k, .int e.z] ∧ Dp K H vt e.t.d := by
  obtain ⟨a, xs, rfl, hq, all⟩ := dp_lst h
  cases all with
  | cons h1 t1 =>
    cases t1 with
    | cons h2 t2 =>
      cases t2 with
      | cons h3 t3 =>
        cases t3
        cases h2
        cases h3
        exact ⟨a, _, rfl, hq, h1⟩
theorem asg_seq {a b : TS} {D D' : Ends} {σ : L2.St} {H : Hp} {i : Nat} {x : V} (h : a { D with nx := b D } (σ.set i (some x)) H) : gName i x σ H ({ D' with nx := tSeq a b D } : Ends).nx := h
theorem or3 {t1 t2 t3 : TT} {A B : TS} {D : Ends} {σ : L2.St} {H : Hp} {b1 b2 b3 : Bool} (h1 : ∀ Q : Bool → Hp → Prop, Q b1 H → t1 σ H Q) (h2 : ∀ Q : Bool → Hp → Prop, Q b2 H → t2 σ H Q) (h3 : ∀ Q : Bool → Hp → Prop, Q b3 H → t3 σ H Q)
    (k : if (b1 || (b2 || b3)) = true then A D σ H else B D σ H) : tIfS (tOr t1 (tOr t2 t3)) A B D σ H := by
  refine h1 _ ?_
  cases b1 with
  | true => exact if_yes rfl k
  | false =>
    refine if_no rfl (h2 _ ?_)
    cases b2 with
    | true => exact if_yes rfl k
    | false => exact if_no rfl (h3 _ k)
def spLs (K : Frag) : Sp := fun vs H Q _ => ∃ (p R W : Addr) (n : Nat) (ws : List Str) (es : List En) (ys : List V) (mo : Int), vs = [.ref p, .ref R, .ref W, .int mo] ∧ mo ≤ 12 ∧ n ≤ 400 ∧ Pu H p n ∧ H W = some (.lst (ws.map V.str)) ∧ W ≠ p ∧ (ws = [] ∨ ws.length = 11) ∧ (∀ w ∈ ws, gw w) ∧
  H R = some (.lst ys) ∧ R ≠ p ∧ DpAll K (hide (hide H p) R) ys (es.map En.d) ∧ (∀ e ∈ es, e.good) ∧ es.length ≤ 64 ∧
  ∀ (H' : Hp) (v : V) (e : En), Same (hide H p) (hide H' p) → Pu H' p (n + 100) → Dp K (hide (hide H' p) R) v e.d → e.good → Q v H'
section
variable {P : Program} {w : World} {K : Frag} {mg : Str → Option Value} {base : Heap}
abbrev sLs : Stmt := top 64
abbrev nLs : List Str := ["_law_purse_here", "_law_pool", "_law_words_here", "_law_most", "_law_kinds", "_law_kind_here", "_law_many", "_law_place", "_law_parts", "_law_k", "_law_part", "_law_deep", "_law_size"]
theorem scLs : FnScope nLs ["_law_purse_here", "_law_pool", "_law_words_here", "_law_most"] (defScope sLs) := ⟨rfl, rfl, rfl, by decide +kernel, rfl, by decide +kernel, by decide +kernel⟩
theorem has_Ls {f : Addr} {fd : FuncData}  (F : Fun K "_law_sum" "_law_sum" sLs f fd) (g : mg "_law_sum" = some (.ref f)) (B : Blt mg) (hCo : Has P w K mg base 1 "_law_coin" ["_law_purse_here", "_law_many"] (spCo)) (hLf : Has P w K mg base 29 "_law_leaf" ["_law_purse_here", "_law_words_here"] (spLf K)) :
    Has P w K mg base 30 "_law_sum" ["_law_purse_here", "_law_pool", "_law_words_here", "_law_most"] (spLs K) := by
  obtain ⟨fCo, dCo, gCo, kCo, bCo, GCo⟩ := hCo
  obtain ⟨fLf, dLf, gLf, kLf, bLf, GLf⟩ := hLf
  refine has_of F g (F.binds (ps := ["_law_purse_here", "_law_pool", "_law_words_here", "_law_most"]) fun _ _ _ _ _ _ us hl => match us, hl with | [_, _, _, _], _ => rfl) (F.ok scLs (fun vs H Q E h => ?_) (fun cdv A outer s H vs Q E hr h => ?_))
  · obtain ⟨p, R, W, n, ws, es, ys, mo, rfl, _⟩ := h
    rfl
  · have hu : (A.deeper (envOfC "_law_sum" (defScope sLs) s.heap.objs.size f cdv)).units + 1 < cLine := by
      have := hr.un
      omega
    refine ⟨_, (pss_cons (ps_set (i := 4) scLs.nd rfl (.inl rfl) (pe_lst (pa_cons pe_str (pa_cons pe_str (pa_cons pe_str (pa_cons pe_str (pa_cons pe_str (pa_cons pe_str (pa_cons pe_str (pa_cons pe_str (pa_cons pe_str (pa_cons pe_str (pa_cons pe_str (pa_cons pe_str (pa_cons pe_str (pa_cons pe_str (pa_cons pe_str (pa_cons pe_str pa_nil))))))))))))))))))
        (pss_cons (ps_set (i := 5) scLs.nd rfl (.inl rfl) (pe_ix ix_list (pe_op op_cat (pv 4) (pe_lst (pa_cons pe_str (pa_cons pe_str pa_nil)))) (pe_call GCo (hr.mono (by decide)) rfl gCo kCo bCo .nil pass0 (pa_cons (pv 0) (pa_cons pe_int pa_nil))) (fun _ _ => rfl)))
        (pss_cons (ps_set (i := 6) scLs.nd rfl (.inl rfl) (pe_dget2 hu (pe_disp (L2.pps_cons pe_str pe_int (L2.pps_cons pe_str pe_int (L2.pps_cons pe_str pe_int (L2.pps_cons pe_str pe_int L2.pps_nil)))) (by rfl) (by rfl) (fun z => by cases z) (by decide)) (pv 5) pe_int ⟨rfl, rfl, rfl, rfl⟩))
        (pss_cons (ps_set (i := 7) scLs.nd rfl (.inl rfl) (pe_call GCo (hr.mono (by decide)) rfl gCo kCo bCo .nil pass0 (pa_cons (pv 0) (pa_cons (pe_callB (call_max2 rfl) (by rfl) B.max (by decide +kernel) (pa_cons pe_int (pa_cons (pv 6) pa_nil))) pa_nil))))
        (pss_cons (ps_set (i := 8) scLs.nd rfl (.inl rfl) (pe_lst pa_nil))
        (pss_cons (ps_for PassesOwn.never rfl (pi_range1 (by rfl) B.range (pa_cons (pv 6) pa_nil)) (pg_name (i := 9) scLs.nd rfl (.inl rfl))
          (pss_cons (ps_set (i := 10) scLs.nd rfl (.inl rfl) (pe_lst (pa_cons (pe_call GLf hr rfl gLf kLf bLf .nil pass0 (pa_cons (pv 0) (pa_cons (pv 2) pa_nil))) (pa_cons pe_int (pa_cons pe_int pa_nil)))))
          (pss_cons (ps_weak (ps_if (PW.pt (pw_and (pt_cmpR (op_neD hr.units) (pv 1) (pe_lst pa_nil) (nomark _)) (pw_and1 (pt_cmpR op_eq (pv 9) (pv 7) (nomark _))))) (pss_one (ps_set (i := 10) scLs.nd rfl (.inl rfl) (pe_ix ix_list (pv 1) (pe_un un_neg pe_int) (fun _ _ => rfl)))) (pss_one (ps_if (PW.pt (pw_and (pt_cmpR (op_neD hr.units) (pv 1) (pe_lst pa_nil) (nomark _)) (pw_and1 (pt_cmpR op_eq (pe_call GCo (hr.mono (by decide)) rfl gCo kCo bCo .nil pass0 (pa_cons (pv 0) (pa_cons pe_int pa_nil))) pe_int (nomark _))))) (pss_one (ps_set (i := 10) scLs.nd rfl (.inl rfl) (pe_ix ix_list (pv 1) (pe_call GCo (hr.mono (by decide)) rfl gCo kCo bCo .nil pass0 (pa_cons (pv 0) (pa_cons (pe_callB call_len_seq (by rfl) B.len PySem.boot_len (pa_cons (pv 1) pa_nil)) pa_nil))) (fun _ _ => rfl)))) pss_nil))))
          (pss_one (ps_expr (pe_bm PySem.F.plainAttrs_list PySem.F.slot_list_append PySem.F.type_list_append mt_append (pv 8) (pa_cons (pv 10) pa_nil)))))))
        (pss_cons (ps_weak (ps_set (i := 11) scLs.nd rfl (.inl rfl) (pe_op op_add pe_int (pe_callBK (cr_maxD rfl) (by rfl) B.max (by decide +kernel) (pa_cons (pe_lc (te := tOp (rIxL K) (tVar 10) (tC (.int 1))) (own := [("_law_part", 10)]) (g := gName 10) (tt := tYes) rfl scLs.nd (pi_list (pv 8)) (blkOk_by (N := nLs) (sc := defScope sLs) (by decide +kernel)) (fun _ _ _ _ _ => pg_name (i := 10) scLs.nd rfl (.inl rfl)) (fun _ _ _ _ _ => pts_nil) (fun _ _ _ _ _ => (pe_ix ix_list (pv 10) pe_int (fun _ _ => rfl)))) pa_nil) (pk_cons pe_int pk_nil)))))
        (pss_cons (ps_set (i := 12) scLs.nd rfl (.inl rfl) (pe_op op_add pe_int (pe_callB (cr_sum rfl) (by rfl) B.sum (by decide +kernel) (pa_cons (pe_lc (te := tOp (rIxL K) (tVar 10) (tC (.int 2))) (own := [("_law_part", 10)]) (g := gName 10) (tt := tYes) rfl scLs.nd (pi_list (pv 8)) (blkOk_by (N := nLs) (sc := defScope sLs) (by decide +kernel)) (fun _ _ _ _ _ => pg_name (i := 10) scLs.nd rfl (.inl rfl)) (fun _ _ _ _ _ => pts_nil) (fun _ _ _ _ _ => (pe_ix ix_list (pv 10) pe_int (fun _ _ => rfl)))) pa_nil))))
        (pss_cons (ps_if (PW.pt (pw_or (pt_cmpR op_eq (pv 6) pe_int (nomark _)) (pw_or (pt_cmpR op_gt (pv 11) (pv 3) (nomark _)) (pw_or1 (pt_cmpR op_gt (pv 12) pe_int (nomark _)))))) (pss_one (ps_ret (pe_lst (pa_cons (pe_call GLf hr rfl gLf kLf bLf .nil pass0 (pa_cons (pv 0) (pa_cons (pv 2) pa_nil))) (pa_cons pe_int (pa_cons pe_int pa_nil)))))) pss_nil)
        (pss_one (ps_ret (pe_lst (pa_cons (pe_op op_catT (pe_tup (pa_cons (pv 5) pa_nil)) (pe_callTy call_tuple_of (by rfl) B.tuple (by decide +kernel) (pa_cons (pe_lc (te := tOp (rIxL K) (tVar 10) (tC (.int 0))) (own := [("_law_part", 10)]) (g := gName 10) (tt := tYes) rfl scLs.nd (pi_list (pv 8)) (blkOk_by (N := nLs) (sc := defScope sLs) (by decide +kernel)) (fun _ _ _ _ _ => pg_name (i := 10) scLs.nd rfl (.inl rfl)) (fun _ _ _ _ _ => pts_nil) (fun _ _ _ _ _ => (pe_ix ix_list (pv 10) pe_int (fun _ _ => rfl)))) pa_nil))) (pa_cons (pv 11) (pa_cons (pv 12) pa_nil))))))))))))))), ?_⟩
    obtain ⟨p, R, W, n, ws, es, ys, mo, rfl, hmo, hn, u, hW, neW, lw, okw, hR, neR, dall, eg, el, k⟩ := h
    refine ⟨(by decide : 16 ≤ sizeLine), fun L1 nL1 => ?_⟩
    have u1 := u.put (o := .lst (kd16.map V.str)) (u.ne nL1)
    have s1 : Same (hide H p) (hide (L2.upd H L1 (.lst (kd16.map V.str))) p) := hput (Same.refl _) nL1
    refine ⟨_, rfl, (by decide : 2 ≤ sizeLine), fun L2' nL2 => ?_⟩
    replace nL2 : (L2.upd H L1 (.lst (kd16.map V.str))) L2' = none := nL2
    have h21 : L1 ≠ L2' := fun z => by rw [← z, upd_same] at nL2; cases nL2
    have u2 := u1.put (o := .lst ((["&&", "||"] : List Str).map V.str)) (u1.ne nL2)
    have s2 := s1.trans (hide_mono (same_upd (o := .lst ((["&&", "||"] : List Str).map V.str)) nL2))
    refine ⟨L1, L2', kd16.map V.str, (["&&", "||"] : List Str).map V.str, rfl, rfl, (upd_ne h21).trans upd_same, upd_same, (by decide : 16 + 2 ≤ sizeLine), fun L3 nL3 => ?_⟩
    have nL3p := u2.ne nL3
    have u3 := u2.put (o := .lst (kd18.map V.str)) nL3p
    have s3 := s2.trans (hide_mono (same_upd (o := .lst (kd18.map V.str)) nL3))
    refine ⟨_, rfl, p, 18, _, rfl, by decide, by decide, by omega, u3, fun H4 r4 hr4 u4 o4 => ?_⟩
    have s4 := s3.trans (offs o4)
    have hL3 : H4 L3 = some (.lst (kd18.map V.str)) := (o4 L3 nL3p).trans upd_same
    obtain ⟨kd, mk, hk⟩ := pick_of kd18 (r := r4) hr4
    refine ⟨L3, _, _, _, rfl, rfl, SqL.of hL3, atI_nat hk, ?_⟩
    clear u1 s1 nL2 u2 s2 nL3 u3 s3 hL3
    refine fun D nD => ⟨upd_same, [((Sum.inr "leaf" : Key), V.int 0), (Sum.inr "minus", .int 1), (Sum.inr "no", .int 1), (Sum.inr "choose", .int 3)], rfl, by decide, ?_⟩
    refine ⟨D, rfl, .inl ⟨_, .inl upd_same⟩, _, rfl, _, DGet.k (k := Sum.inr kd) upd_same, ?_⟩
    rw [many_get kd mk]
    have nDp := u4.ne nD
    have nDH := oldN s4 u4 nD
    have u5 := (u4.put (o := .dK []) nDp).put (o := .dK (mergeK [] [((Sum.inr "leaf" : Key), V.int 0), (Sum.inr "minus", .int 1), (Sum.inr "no", .int 1), (Sum.inr "choose", .int 3)])) nDp
    have s5 := hput (hput s4 nDH (o := .dK [])) nDH (o := .dK (mergeK [] [((Sum.inr "leaf" : Key), V.int 0), (Sum.inr "minus", .int 1), (Sum.inr "no", .int 1), (Sum.inr "choose", .int 3)]))
    generalize L2.upd (L2.upd H4 D (.dK [])) D (.dK (mergeK [] [((Sum.inr "leaf" : Key), V.int 0), (Sum.inr "minus", .int 1), (Sum.inr "no", .int 1), (Sum.inr "choose", .int 3)])) = H5 at u5 s5 ⊢
    have m3 : manyOf kd ≤ 3 := (by decide +kernel : ∀ k ∈ kd18, manyOf k ≤ 3) kd mk
    refine ⟨_, rfl, _, rfl, _, _, rfl, p, max 1 (manyOf kd), _, ?_, by omega, Nat.le_trans (by omega : max 1 (manyOf kd) ≤ 3) (by decide), by omega, u5, fun H6 r6 hr6 u6 o6 => ?_⟩
    · refine congrArg (fun z : Int => [V.ref p, V.int z]) ?_
      split <;> omega
    have s6 := s5.trans (offs o6)
    refine ⟨(by decide : 0 ≤ sizeLine), fun L nL => ?_⟩
    have nLp := u6.ne nL
    have nLH := oldN s6 u6 nL
    have u7 := u6.put (o := .lst []) nLp
    have s7 := hput s6 nLH (o := .lst [])
    have hL7 : (L2.upd H6 L (.lst [])) L = some (.lst []) := upd_same
    generalize L2.upd H6 L (.lst []) = H7 at u7 s7 hL7 ⊢
    have nLR : R ≠ L := fun z => by rw [← z, hR] at nLH; cases nLH
    have nLW : W ≠ L := fun z => by rw [← z, hW] at nLH; cases nLH
    have getR : ∀ {H' : Hp}, Same (hide H p) (hide H' p) → H' R = some (.lst ys) := fun s => hide_same _ _ (s _ _ (hide_ne hR neR))
    have getW : ∀ {H' : Hp}, Same (hide H p) (hide H' p) → H' W = some (.lst (ws.map V.str)) := fun s => hide_same _ _ (s _ _ (hide_ne hW neW))
    -- the pool's entries, beside what is written
    have poolY : ∀ {H' : Hp}, Same (hide H p) (hide H' p) → DpAll K (hide (hide (hide H' p) R) L) ys (es.map En.d) := fun s => by
      exact dpAll_same (hide_of (hide_mono s) (hide_none (hide_none nLH))) dall
    refine ⟨_, rfl, (manyOf kd : Nat), rfl, by omega, by omega, ?_⟩
    refine for_range (lo := 0) (n := manyOf kd) (fun i σ H' => (∃ x4 x7 x9 x10 x11 x12 : Option V, σ = [some (.ref p), some (.ref R), some (.ref W), some (.int mo), x4, some (.str kd), some (.int ((manyOf kd : Nat) : Int)), x7, some (.ref L), x9, x10, x11, x12]) ∧ (∃ x7 : Int, σ[7]? = some (some (.int x7))) ∧ Pu H' p (n + 2 + 13 * i) ∧ Same (hide H p) (hide H' p) ∧
      ∃ (ps : List En) (vs : List V), H' L = some (.lst vs) ∧ ps.length = i ∧ DpAll K (hide (hide (hide H' p) R) L) vs (ps.map En.d) ∧ ∀ e ∈ ps, e.good)
      ⟨⟨_, _, _, _, _, _, rfl⟩, ⟨_, rfl⟩, u7, s7, [], [], hL7, rfl, .nil, by simp⟩ (fun i σ H' hi e => ?_) (fun σ H' e => ?_)
    · obtain ⟨⟨x4, x7, x9, x10, x11, x12, rfl⟩, ⟨pl, e7⟩, u8, s8, ps, vs, hL8, lp, dps, gps⟩ := e
      obtain rfl : x7 = some (.int pl) := Option.some.inj e7
      have lv : vs.length = i := by rw [dpLen dps, List.length_map, lp]
      refine ⟨_, rfl, _, rfl, p, W, _, ws, rfl, by omega, u8, getW s8, neW, lw, okw, fun H9 v t s9 u9 dv lf => ?_⟩
      have hL9 : H9 L = some (.lst vs) := hide_same _ _ (s9 _ _ (hide_ne hL8 nLp))
      have s89 := s8.trans s9
      have dps9 := dpAll_same (hide_mono (hide_mono s9)) dps
      refine ⟨(by decide : 3 ≤ sizeLine), fun U nU => ?_⟩
      have nUp := u9.ne nU
      have nUL : U ≠ L := fun z => by rw [z, hL9] at nU; cases nU
      have nUR : U ≠ R := fun z => by rw [z, getR s89] at nU; cases nU
      have u10 := u9.put (o := .lst [v, .int 1, .int 1]) nUp
      have q10 := same_upd (o := .lst [v, .int 1, .int 1]) nU
      have s10 := s89.trans (hide_mono q10)
      have hL10 := q10 _ _ hL9
      have hU10 : (L2.upd H9 U (.lst [v, .int 1, .int 1])) U = some (.lst [v, .int 1, .int 1]) := upd_same
      have dps10 := dpAll_same (hide_mono (hide_mono (hide_mono q10))) dps9
      have dv10 := dp_same q10 dv
      generalize L2.upd H9 U (.lst [v, .int 1, .int 1]) = H10 at u10 s10 hL10 hU10 dps10 dv10 ⊢
      have dU : Dp K (hide (hide (hide H10 p) R) L) (.ref U) (En.mk t 1 1).d := by
        obtain ⟨a0, b0, c0, ep, _⟩ := u10
        have d1 := lf_hide lf.h0 ep dv10
        have d2 := lf_hide lf.h0 (hide_ne (getR s10) neR) d1
        have d3 := lf_hide lf.h0 (hide_ne (hide_ne hL10 nLp) (Ne.symm nLR)) d2
        exact .lst (SqL.of (hide_ne (hide_ne (hide_ne hU10 nUp) nUR) nUL)) (.cons d3 (.cons (.int _) (.cons (.int _) .nil)))
      refine ⟨fun σ' H' => ∃ (x4 x9 x11 x12 : Option V) (v : V) (en : En), σ' = [some (.ref p), some (.ref R), some (.ref W), some (.int mo), x4, some (.str kd), some (.int ((manyOf kd : Nat) : Int)), some (.int pl), some (.ref L), x9, some v, x11, x12] ∧ Pu H' p (n + 2 + 13 * i + 12) ∧ Same (hide H p) (hide H' p) ∧ H' L = some (.lst vs) ∧ DpAll K (hide (hide (hide H' p) R) L) vs (ps.map En.d) ∧ en.good ∧ Dp K (hide (hide (hide H' p) R) L) v en.d, ?_, ?_⟩
      · rintro σ' H11 ⟨x4, x9, x11, x12, v', en, rfl, u11, s11, hL11, dps11, gen, dv11⟩
        refine ⟨_, rfl, .inl ⟨rfl, _, SqL.of hL11⟩, _, rfl, L, vs, _, rfl, rfl, hL11, ?_, ?_⟩
        · exact Nat.lt_of_le_of_lt (by omega : vs.length ≤ 3) (by decide)
        refine ⟨⟨_, _, _, _, _, _, rfl⟩, ⟨_, rfl⟩, (u11.put (Ne.symm (Ne.symm nLp))).le (by omega), hput s11 nLH, ps ++ [en], vs ++ [v'], upd_same, by rw [List.length_append, lp]; rfl, ?_, fun e m => ?_⟩
        · rw [List.map_append]
          exact dpApp (dpAll_same hide_put3 dps11) (.cons (dp_same hide_put3 dv11) .nil)
        · rcases List.mem_append.mp m with m | m
          · exact gps e m
          · rw [List.mem_singleton.mp m]; exact gen
      · refine ⟨_, rfl, (by decide : 0 ≤ sizeLine), fun T1 nT1 => ?_⟩
        have nT1p := u10.ne nT1
        have nT1L : L ≠ T1 := fun z => by rw [← z, hL10] at nT1; cases nT1
        have nT1R : R ≠ T1 := fun z => by rw [← z, getR s10] at nT1; cases nT1
        have u10' := u10.put (o := .lst []) nT1p
        have qT1 := same_upd (o := .lst []) nT1
        have s10' := s10.trans (hide_mono qT1)
        have hL10' := qT1 _ _ hL10
        have hT1 : (L2.upd H10 T1 (.lst [])) T1 = some (.lst []) := upd_same
        have yyT1 : Same (hide (hide (hide H10 p) R) L) (hide (hide (hide (L2.upd H10 T1 (.lst [])) p) R) L) := hide_mono (hide_mono (hide_mono qT1))
        generalize L2.upd H10 T1 (.lst []) = H10' at u10' s10' hL10' hT1 yyT1 ⊢
        refine ⟨.list (es.map En.d), .list [], .lst (SqL.of (getR s10')) (dpAll_same ((hide_same.trans hide_same).trans hide_same) (poolY s10')), .lst (SqL.of hT1) .nil, sh_en eg, by decide, _, rfl, ?_⟩
        rw [eqv_nil]
        have ly : ys.length = es.length := by rw [dpLen dall, List.length_map]
        have emp : (!(es.map En.d).isEmpty) = true → 0 < es.length := fun e => by
          cases es with
          | nil => cases e
          | cons => simp
        refine if_by (fun e => ?_) (fun e => if_no rfl ?_)
        · have el1 := emp e
          refine ⟨_, rfl, _, rfl, rfl, _, rfl, if_by (fun _ => ?_) (fun _ => ?_)⟩
          · obtain ⟨en, hen⟩ : ∃ en, es[es.length - 1]? = some en := ⟨_, List.getElem?_eq_getElem (by omega)⟩
            obtain ⟨y, hy, dy⟩ := dpAt (poolY s10') (d := en.d) (i := es.length - 1) (by rw [List.getElem?_map, hen]; rfl)
            rw [← ly] at hy
            exact ⟨_, rfl, _, rfl, R, _, _, y, rfl, rfl, SqL.of (getR s10'), atI_neg1 hy, _, _, _, _, y, en, rfl, u10'.le (by omega), s10', hL10', dpAll_same yyT1 dps10, eg en (List.mem_of_getElem? hen), dy⟩
          · refine ⟨_, rfl, (by decide : 0 ≤ sizeLine), fun T2 nT2 => ?_⟩
            have nT2p := u10'.ne nT2
            have nT2L : L ≠ T2 := fun z => by rw [← z, hL10'] at nT2; cases nT2
            have nT2R : R ≠ T2 := fun z => by rw [← z, getR s10'] at nT2; cases nT2
            have u10'' := u10'.put (o := .lst []) nT2p
            have qT2 := same_upd (o := .lst []) nT2
            have s10'' := s10'.trans (hide_mono qT2)
            have hL10'' := qT2 _ _ hL10'
            have hT2 : (L2.upd H10' T2 (.lst [])) T2 = some (.lst []) := upd_same
            have yyT2 : Same (hide (hide (hide H10' p) R) L) (hide (hide (hide (L2.upd H10' T2 (.lst [])) p) R) L) := hide_mono (hide_mono (hide_mono qT2))
            generalize L2.upd H10' T2 (.lst []) = H10'' at u10'' s10'' hL10'' hT2 yyT2 ⊢
            refine ⟨.list (es.map En.d), .list [], .lst (SqL.of (getR s10'')) (dpAll_same ((hide_same.trans hide_same).trans hide_same) (poolY s10'')), .lst (SqL.of hT2) .nil, sh_en eg, by decide, _, rfl, ?_⟩
            rw [eqv_nil]
            refine if_by (fun e => ?_) (fun e => if_no rfl ⟨_, _, _, _, _, _, rfl, u10''.le (by omega), s10'', hL10'', dpAll_same (yyT1.trans yyT2) dps10, en_leaf lf, dp_same (yyT1.trans yyT2) dU⟩)
            have el0 := emp e
            refine ⟨_, rfl, p, 2, _, rfl, by decide, by decide, by omega, u10'', fun H13 r13 hr13 u13 o13 => ?_⟩
            have s13 := s10''.trans (offs o13)
            have yy13 := (yyT1.trans yyT2).trans (hide_mono (hide_mono (offs o13)) : Same (hide (hide (hide H10'' p) R) L) (hide (hide (hide H13 p) R) L))
            have hL13 := (o13 L nLp).trans hL10''
            refine ⟨rfl, _, rfl, if_by (fun _ => ?_) (fun _ => ⟨_, _, _, _, _, _, rfl, u13.le (by omega), s13, hL13, dpAll_same yy13 dps10, en_leaf lf, dp_same yy13 dU⟩)⟩
            refine ⟨_, rfl, _, rfl, _, rfl, R, _, rfl, .inl (SqL.of (getR s13)), p, ys.length, _, rfl, by omega, Nat.le_trans (by omega : ys.length ≤ 64) (by decide), by omega, u13, fun H14 r14 hr14 u14 o14 => ?_⟩
            have s14 := s13.trans (offs o14)
            have yy14 := yy13.trans (hide_mono (hide_mono (offs o14)) : Same (hide (hide (hide H13 p) R) L) (hide (hide (hide H14 p) R) L))
            have hL14 := (o14 L nLp).trans hL13
            obtain ⟨en, hen⟩ : ∃ en, es[r14]? = some en := ⟨_, List.getElem?_eq_getElem (by omega)⟩
            obtain ⟨y, hy, dy⟩ := dpAt (poolY s14) (d := en.d) (i := r14) (by rw [List.getElem?_map, hen]; rfl)
            exact ⟨R, _, _, y, rfl, rfl, SqL.of (getR s14), atI_nat hy, _, _, _, _, y, en, rfl, u14.le (by omega), s14, hL14, dpAll_same yy14 dps10, eg en (List.mem_of_getElem? hen), dy⟩
        · refine ⟨_, rfl, (by decide : 0 ≤ sizeLine), fun T2 nT2 => ?_⟩
          have nT2p := u10'.ne nT2
          have nT2L : L ≠ T2 := fun z => by rw [← z, hL10'] at nT2; cases nT2
          have nT2R : R ≠ T2 := fun z => by rw [← z, getR s10'] at nT2; cases nT2
          have u10'' := u10'.put (o := .lst []) nT2p
          have qT2 := same_upd (o := .lst []) nT2
          have s10'' := s10'.trans (hide_mono qT2)
          have hL10'' := qT2 _ _ hL10'
          have hT2 : (L2.upd H10' T2 (.lst [])) T2 = some (.lst []) := upd_same
          have yyT2 : Same (hide (hide (hide H10' p) R) L) (hide (hide (hide (L2.upd H10' T2 (.lst [])) p) R) L) := hide_mono (hide_mono (hide_mono qT2))
          generalize L2.upd H10' T2 (.lst []) = H10'' at u10'' s10'' hL10'' hT2 yyT2 ⊢
          refine ⟨.list (es.map En.d), .list [], .lst (SqL.of (getR s10'')) (dpAll_same ((hide_same.trans hide_same).trans hide_same) (poolY s10'')), .lst (SqL.of hT2) .nil, sh_en eg, by decide, _, rfl, ?_⟩
          rw [eqv_nil]
          refine if_by (fun e => ?_) (fun e => if_no rfl ⟨_, _, _, _, _, _, rfl, u10''.le (by omega), s10'', hL10'', dpAll_same (yyT1.trans yyT2) dps10, en_leaf lf, dp_same (yyT1.trans yyT2) dU⟩)
          have el0 := emp e
          refine ⟨_, rfl, p, 2, _, rfl, by decide, by decide, by omega, u10'', fun H13 r13 hr13 u13 o13 => ?_⟩
          have s13 := s10''.trans (offs o13)
          have yy13 := (yyT1.trans yyT2).trans (hide_mono (hide_mono (offs o13)) : Same (hide (hide (hide H10'' p) R) L) (hide (hide (hide H13 p) R) L))
          have hL13 := (o13 L nLp).trans hL10''
          refine ⟨rfl, _, rfl, if_by (fun _ => ?_) (fun _ => ⟨_, _, _, _, _, _, rfl, u13.le (by omega), s13, hL13, dpAll_same yy13 dps10, en_leaf lf, dp_same yy13 dU⟩)⟩
          refine ⟨_, rfl, _, rfl, _, rfl, R, _, rfl, .inl (SqL.of (getR s13)), p, ys.length, _, rfl, by omega, Nat.le_trans (by omega : ys.length ≤ 64) (by decide), by omega, u13, fun H14 r14 hr14 u14 o14 => ?_⟩
          have s14 := s13.trans (offs o14)
          have yy14 := yy13.trans (hide_mono (hide_mono (offs o14)) : Same (hide (hide (hide H13 p) R) L) (hide (hide (hide H14 p) R) L))
          have hL14 := (o14 L nLp).trans hL13
          obtain ⟨en, hen⟩ : ∃ en, es[r14]? = some en := ⟨_, List.getElem?_eq_getElem (by omega)⟩
          obtain ⟨y, hy, dy⟩ := dpAt (poolY s14) (d := en.d) (i := r14) (by rw [List.getElem?_map, hen]; rfl)
          exact ⟨R, _, _, y, rfl, rfl, SqL.of (getR s14), atI_nat hy, _, _, _, _, y, en, rfl, u14.le (by omega), s14, hL14, dpAll_same yy14 dps10, eg en (List.mem_of_getElem? hen), dy⟩
    · obtain ⟨⟨x4, x7, x9, x10, x11, x12, rfl⟩, _, u8, s8, ps, vs, hL8, lp, dps, gps⟩ := e
      have lv : vs.length = ps.length := by rw [dpLen dps, List.length_map]
      refine ⟨fun σ' H'' => ∃ (dm : Int), σ' = [some (.ref p), some (.ref R), some (.ref W), some (.int mo), x4, some (.str kd), some (.int ((manyOf kd : Nat) : Int)), x7, some (.ref L), x9, x10, some (.int (1 + dm)), x12] ∧ (∀ k ∈ ps.map En.k, k ≤ dm) ∧ Same H' H'', ?_, ?_⟩
      rotate_left
      · refine ⟨_, rfl, L, rfl, ⟨_, SqL.of hL8⟩, fun D1 hD1 => lc_it (walk_list (xs := vs)) (fun i H'' => Same H' H'' ∧ H'' D1 = some (.lst (((ps.take i).map En.k).map V.int))) ⟨same_upd hD1, upd_same⟩ (fun i H'' _ e => SqL.of (e.1 _ _ hL8)) (fun i x H'' H4 hi e y => ?_) (fun H'' e => ?_)⟩
        · obtain ⟨rfl, hx⟩ := y
          obtain ⟨sq, hDt⟩ := e
          obtain ⟨d, hdi, dp⟩ := dpAt' dps hx
          obtain ⟨en, hen, rfl⟩ : ∃ en, ps[i]? = some en ∧ en.d = d := by
            rw [List.getElem?_map] at hdi
            cases z : ps[i]? with
            | none => rw [z] at hdi; cases hdi
            | some c => rw [z] at hdi; exact ⟨c, rfl, Option.some.inj hdi⟩
          obtain ⟨a, vt, rfl, hqa, _⟩ := en_read (dp_same (((hide_same.trans hide_same).trans hide_same).trans sq) dp)
          refine ⟨rfl, _, rfl, a, _, 1, _, rfl, rfl, hqa, atI_nat (j := 1) rfl, _, hDt, ?_, same_upd2 sq hD1, ?_⟩
          · rw [List.length_map, List.length_map, List.length_take]
            exact Nat.lt_of_le_of_lt (Nat.le_trans (Nat.min_le_right _ _) (by omega : ps.length ≤ 3)) (by decide)
          · rw [upd_same, take_snoc hen, List.map_append, List.map_append]
            rfl
        obtain ⟨sqD1, hDD⟩ := e
        rw [show ps.take vs.length = ps from List.take_of_length_le (by omega)] at hDD
        exact ⟨D1, ps.map En.k, .int 0, rfl, rfl, SqL.of hDD, fun e => ⟨_, _, rfl, rfl, 0, rfl, (fun k m => by rw [e] at m; cases m), sqD1⟩, fun m mm lm => ⟨_, _, rfl, rfl, m, rfl, lm, sqD1⟩⟩
      rintro σ' H'' ⟨dm, rfl, hdm, sqD1⟩
      have s9 := s8.trans (hide_mono sqD1)
      have u9 := u8.same sqD1
      have hL9 := sqD1 _ _ hL8
      have dps9 := dpAll_same (hide_mono (hide_mono (hide_mono sqD1))) dps
      refine ⟨_, rfl, L, rfl, ⟨_, SqL.of hL9⟩, fun D2 hD2 => lc_it (walk_list (xs := vs)) (fun i H3 => Same H'' H3 ∧ H3 D2 = some (.lst (((ps.take i).map En.z).map V.int))) ⟨same_upd hD2, upd_same⟩ (fun i H3 _ e => SqL.of (e.1 _ _ hL9)) (fun i x H3 H4 hi e y => ?_) (fun H3 e => ?_)⟩
      · obtain ⟨rfl, hx⟩ := y
        obtain ⟨sq, hDt⟩ := e
        obtain ⟨d, hdi, dp⟩ := dpAt' dps9 hx
        obtain ⟨en, hen, rfl⟩ : ∃ en, ps[i]? = some en ∧ en.d = d := by
          rw [List.getElem?_map] at hdi
          cases z : ps[i]? with
          | none => rw [z] at hdi; cases hdi
          | some c => rw [z] at hdi; exact ⟨c, rfl, Option.some.inj hdi⟩
        obtain ⟨a, vt, rfl, hqa, _⟩ := en_read (dp_same (((hide_same.trans hide_same).trans hide_same).trans sq) dp)
        refine ⟨rfl, _, rfl, a, _, 2, _, rfl, rfl, hqa, atI_nat (j := 2) rfl, _, hDt, ?_, same_upd2 sq hD2, ?_⟩
        · rw [List.length_map, List.length_map, List.length_take]
          exact Nat.lt_of_le_of_lt (Nat.le_trans (Nat.min_le_right _ _) (by omega : ps.length ≤ 3)) (by decide)
        · rw [upd_same, take_snoc hen, List.map_append, List.map_append]
          rfl
      obtain ⟨sqD2, hDD⟩ := e
      rw [show ps.take vs.length = ps from List.take_of_length_le (by omega)] at hDD
      refine ⟨D2, ps.map En.z, rfl, SqL.of hDD, _, _, rfl, rfl, ?_⟩
      have hsz : (((nmsAll (ps.map En.t)).length : Nat) : Int) ≤ (ps.map En.z).sum := sum_nms gps
      generalize (ps.map En.z).sum = sz at hsz ⊢
      have s10 := s9.trans (hide_mono sqD2)
      have u10 := u9.same sqD2
      have hL10 := sqD2 _ _ hL9
      have dps10 := dpAll_same (hide_mono (hide_mono (hide_mono sqD2))) dps9
      clear dps9 dps u9 s9 hL9
      refine asg_seq ?_
      refine or3 (b1 := decide (V.int ((manyOf kd : Nat) : Int) = V.int 0)) (b2 := decide (mo < 1 + dm)) (b3 := decide (40 < 1 + sz)) (fun Q q => ⟨_, rfl, rfl, _, rfl, q⟩) (fun Q q => ⟨_, rfl, _, rfl, _, _, rfl, rfl, _, rfl, q⟩) (fun Q q => ⟨_, rfl, _, _, rfl, rfl, _, rfl, q⟩) ?_
      refine if_by (fun _ => ?_) (fun e => ?_)
      · refine ⟨_, rfl, _, rfl, p, W, _, ws, rfl, by omega, u10, getW s10, neW, lw, okw, fun H9 v t s9 u9 dv lf => ⟨(by decide : 3 ≤ sizeLine), fun U nU => ?_⟩⟩
        have s11 := s10.trans s9
        have nUp := u9.ne nU
        have nUR : U ≠ R := fun z => by rw [z, getR s11] at nU; cases nU
        have u11 := u9.put (o := .lst [v, .int 1, .int 1]) nUp
        have q11 := same_upd (o := .lst [v, .int 1, .int 1]) nU
        have s12 := s11.trans (hide_mono q11)
        have hU11 : (L2.upd H9 U (.lst [v, .int 1, .int 1])) U = some (.lst [v, .int 1, .int 1]) := upd_same
        have dv11 := dp_same q11 dv
        refine k _ _ (En.mk t 1 1) s12 (u11.le (by omega)) ?_ (en_leaf lf)
        obtain ⟨a0, b0, c0, ep, _⟩ := u11
        have d1 := lf_hide lf.h0 ep dv11
        have d2 := lf_hide lf.h0 (hide_ne (getR s12) neR) d1
        exact .lst (SqL.of (hide_ne (hide_ne hU11 nUp) nUR)) (.cons d2 (.cons (.int _) (.cons (.int _) .nil)))
      · rw [Bool.or_eq_false_iff, Bool.or_eq_false_iff] at e
        obtain ⟨e1, e2, e3⟩ := e
        have m0 : manyOf kd ≠ 0 := fun z => by
          rw [z] at e1
          exact absurd e1 (by decide)
        have dm12 : 1 + dm ≤ 12 := by
          have := of_decide_eq_false e2
          omega
        refine ⟨_, rfl, (by decide : 1 ≤ sizeLine), fun T1 nT1 => ?_⟩
        have q1 := same_upd (o := .tup [.str kd]) nT1
        have hT1 : (L2.upd H3 T1 (.tup [.str kd])) T1 = some (.tup [.str kd]) := upd_same
        have s11 := s10.trans (hide_mono q1)
        have u11 := u10.same q1
        have hL11 := q1 _ _ hL10
        have dps11 := dpAll_same (hide_mono (hide_mono (hide_mono q1))) dps10
        generalize L2.upd H3 T1 (.tup [.str kd]) = H5 at q1 hT1 s11 u11 hL11 dps11 ⊢
        refine ⟨_, rfl, L, rfl, ⟨_, SqL.of hL11⟩, fun D3 hD3 => lc_it (walk_list (xs := vs)) (fun i H6 => Same H5 H6 ∧ ∃ tvs : List V, H6 D3 = some (.lst tvs) ∧ DpAll K (hide (hide (hide H5 p) R) L) tvs ((ps.take i).map fun e => e.t.d)) ⟨same_upd hD3, [], upd_same, .nil⟩ (fun i H6 _ e => SqL.of (e.1 _ _ hL11)) (fun i x H6 H7 hi e y => ?_) (fun H6 e => ?_)⟩
        · obtain ⟨rfl, hx⟩ := y
          obtain ⟨sq, tvs, hDt, dt⟩ := e
          obtain ⟨d, hdi, dp⟩ := dpAt' dps11 hx
          obtain ⟨en, hen, rfl⟩ : ∃ en, ps[i]? = some en ∧ en.d = d := by
            rw [List.getElem?_map] at hdi
            cases z : ps[i]? with
            | none => rw [z] at hdi; cases hdi
            | some c => rw [z] at hdi; exact ⟨c, rfl, Option.some.inj hdi⟩
          obtain ⟨a, vt, rfl, hqa, dvt⟩ := en_read dp
          have hqa' := (((hide_same.trans hide_same).trans hide_same).trans sq).seq hqa
          have lt := dpLen dt
          rw [List.length_map, List.length_take] at lt
          refine ⟨rfl, _, rfl, a, _, 0, _, rfl, rfl, hqa', at0, _, hDt, ?_, same_upd2 sq hD3, _, upd_same, ?_⟩
          · rw [lt]
            exact Nat.lt_of_le_of_lt (Nat.le_trans (Nat.min_le_right _ _) (by omega : ps.length ≤ 3)) (by decide)
          · rw [take_snoc hen, List.map_append]
            exact dpApp dt (.cons dvt .nil)
        obtain ⟨sq, tvs, hDt, dt⟩ := e
        rw [show ps.take vs.length = ps from List.take_of_length_le (by omega)] at dt
        have lt := dpLen dt
        rw [List.length_map, lp] at lt
        refine ⟨D3, tvs, rfl, .inl ⟨SqL.of hDt, fun T2 nT2 => ?_⟩⟩
        have q2 := same_upd (o := .tup tvs) nT2
        have hT2 : (L2.upd H6 T2 (.tup tvs)) T2 = some (.tup tvs) := upd_same
        refine ⟨T1, T2, [.str kd], tvs, rfl, rfl, SqT.of (q2 _ _ (sq _ _ hT1)), SqT.of hT2, by simp, ?_, fun z => by rw [z] at lt; exact (m0 lt.symm).elim, fun _ T3 nT3 => ?_⟩
        · rw [lt]
          exact Nat.le_trans (by show 1 + manyOf kd ≤ 4; omega) (by decide)
        have q3 := same_upd (o := .tup ([.str kd] ++ tvs)) nT3
        have hT3 : (L2.upd (L2.upd H6 T2 (.tup tvs)) T3 (.tup ([.str kd] ++ tvs))) T3 = some (.tup ([.str kd] ++ tvs)) := upd_same
        refine ⟨_, rfl, _, rfl, (by decide : 3 ≤ sizeLine), fun U nU => ?_⟩
        have q4 := same_upd (o := .lst [.ref T3, .int (1 + dm), .int (1 + sz)]) nU
        have qq := ((sq.trans q2).trans q3).trans q4
        have s12 := s11.trans (hide_mono qq)
        have u12 := u11.same qq
        have neT3 : ∀ {a : Addr} {o : HO}, (L2.upd (L2.upd H6 T2 (.tup tvs)) T3 (.tup ([.str kd] ++ tvs))) a = some o → o ≠ .tup ([.str kd] ++ tvs) → T3 ≠ a := fun h n z => by
          rw [← z, hT3] at h
          exact n (Option.some.inj h).symm
        obtain ⟨hd1, gd, ht, hnm⟩ := mkS_of mk (ts := ps.map En.t) (by rw [List.length_map, lp]) m0 (m := dm) fun t m => by
          obtain ⟨e, me, rfl⟩ := List.mem_map.mp m
          have g := gps e me
          have := hdm e.k (List.mem_map_of_mem me)
          have := g.ht
          exact ⟨g.gd, by omega⟩
        refine k _ _ (En.mk (mkS kd (ps.map En.t)) (1 + dm) (1 + sz)) s12 (u12.le (by omega)) ?_ ⟨gd, ht, dm12, by show (((mkS kd (ps.map En.t)).nms.length : Nat) : Int) ≤ 1 + sz; rw [hnm]; omega, by
          have := of_decide_eq_false e3
          show 1 + sz ≤ 40
          omega⟩
        have hR12 := getR s12
        have hU : ∀ {X : Hp} {o : HO}, (L2.upd X U o) U = some o := upd_same
        have u3x := (u11.same ((sq.trans q2).trans q3))
        have nUp := u3x.ne nU
        have nUR : U ≠ R := fun z => by rw [z, getR (s11.trans (hide_mono ((sq.trans q2).trans q3)))] at nU; cases nU
        have nT3p : T3 ≠ p := by
          obtain ⟨a0, b0, c0, ep, _⟩ := u3x
          exact neT3 ep (by simp)
        have nT3R : T3 ≠ R := neT3 (getR (s11.trans (hide_mono ((sq.trans q2).trans q3)))) (by simp)
        have hT3' := q4 _ _ hT3
        refine .lst (SqL.of (hide_ne (hide_ne hU nUp) nUR)) (.cons ?_ (.cons (.int _) (.cons (.int _) .nil)))
        show Dp K _ (.ref T3) (mkS kd (ps.map En.t)).d
        rw [hd1]
        refine .tup (SqT.of (hide_ne (hide_ne hT3' nT3p) nT3R)) (.cons (.str _) ?_)
        rw [List.map_map]
        exact dpAll_same (hide_same.trans (hide_mono (hide_mono qq))) dt
end
end Qb
end PySem
namespace PySem
namespace Qb
open PySem.W PySem.Calls PyProof.Rows L2
theorem okW_first {x : Str} (h : okW x) : ∃ c r, cs x = c :: r ∧ (named x = true → decide (c ∈ ("123456789" : Str).cps.toList) = false) ∧ (named x = false → decide (c ∈ ("123456789" : Str).cps.toList) = true ∧ cs x ≠ [] ∧ (∀ c ∈ cs x, c ∈ digC) ∧ (cs x).head? ≠ some 48) := by
  have nm : named x = true → ∃ c r, cs x = c :: r ∧ decide (c ∈ ("123456789" : Str).cps.toList) = false := fun e => by
    unfold named at e
    rw [Bool.or_eq_true] at e
    rcases e with e | e
    · obtain ⟨c, r, q, m, _⟩ := nm_cons e
      exact ⟨c, r, q, decide_eq_false ((by decide +kernel : ∀ c ∈ staC, c ∉ ("123456789" : Str).cps.toList) c m)⟩
    · have m : x ∈ (["#", "?", "0"] : List Str) := of_decide_eq_true e
      simp only [List.mem_cons, List.not_mem_nil, or_false] at m
      rcases m with rfl | rfl | rfl
      · exact ⟨35, [], by decide +kernel, by decide +kernel⟩
      · exact ⟨63, [], by decide +kernel, by decide +kernel⟩
      · exact ⟨48, [], by decide +kernel, by decide +kernel⟩
  cases e : named x with
  | true =>
    obtain ⟨c, r, q, z⟩ := nm e
    exact ⟨c, r, q, fun _ => z, fun z => by cases z⟩
  | false =>
    rcases h.2 with h | ⟨h1, h2, h3⟩
    · rw [e] at h; cases h
    · cases q : cs x with
      | nil => exact (h1 q).elim
      | cons c r =>
        rw [q] at h2 h3
        refine ⟨c, r, rfl, (fun z => by cases z), fun _ => ⟨?_, by simp, h2, h3⟩⟩
        exact decide_eq_true ((by decide +kernel : ∀ c ∈ digC, c ≠ 48 → c ∈ ("123456789" : Str).cps.toList) c (h2 c (.head _)) fun z => h3 (by rw [z]; rfl))
section
variable {P : Program} {w : World} {K : Frag} {mg : Str → Option Value} {base : Heap}
abbrev sHe : Stmt := top 66
abbrev nHe : List Str := ["_law_word", "_law_book", "_law_given"]
theorem scHe : FnScope nHe ["_law_word", "_law_book", "_law_given"] (defScope sHe) := ⟨rfl, rfl, rfl, by decide +kernel, rfl, by decide +kernel, by decide +kernel⟩
theorem has_He {f : Addr} {fd : FuncData}  (F : Fun K "_law_held" "_law_held" sHe f fd) (g : mg "_law_held" = some (.ref f)) (B : Blt mg)  :
    Has P w K mg base 1 "_law_held" ["_law_word", "_law_book", "_law_given"] (spHe K) := by
  refine has_of F g (F.binds (ps := ["_law_word", "_law_book", "_law_given"]) fun _ _ _ _ _ _ us hl => match us, hl with | [_, _, _], _ => rfl) (F.ok scHe (fun vs H Q E h => ?_) (fun cdv A outer s H vs Q E hr h => ?_))
  · obtain ⟨x, b, g, Ee, rfl, _⟩ := h
    rfl
  · have hu : (A.deeper (envOfC "_law_held" (defScope sHe) s.heap.objs.size f cdv)).units + 1 < cLine := by
      have := hr.un
      omega
    refine ⟨_, (pss_cons (ps_if (pt_cmpR op_notIn_sign (pe_ix ix_str (pv 0) pe_int (fun _ _ => rfl)) pe_str (by rfl)) (pss_one (ps_ret (pe_dget2 hu (pv 1) (pv 0) pe_str ⟨rfl, rfl, rfl, rfl⟩))) pss_nil)
        (pss_one (ps_ret (pe_ifExp (pt_cmpR op_le (pe_callTy call_int_str (by rfl) B.int (by decide +kernel) (pa_cons (pv 0) pa_nil)) (pe_callB call_len_seq (by rfl) B.len PySem.boot_len (pa_cons (pv 2) pa_nil)) (nomark _)) (pe_ix ix_list (pv 2) (pe_op op_sub (pe_callTy call_int_str (by rfl) B.int (by decide +kernel) (pa_cons (pv 0) pa_nil)) pe_int) (fun _ _ => rfl)) pe_str)))), ?_⟩
    obtain ⟨x, b, g, Ee, rfl, ev, hw, k⟩ := h
    have lx := hw.1
    obtain ⟨c, r, hl, hn, hd⟩ := okW_first hw
    refine ⟨_, rfl, x, 0, c, rfl, rfl, line_small (by omega), atI_nat (j := 0) (congrArg (fun l : L => l[0]?) hl), c, _, rfl, rfl, _, rfl, ?_⟩
    unfold txt at k
    cases e : named x with
    | true =>
      rw [e, if_pos rfl] at k
      obtain ⟨ps, hb, _, en⟩ := ev.bk
      rw [hn e]
      refine if_yes rfl ⟨_, rfl, b, rfl, .inl ⟨_, .inl hb⟩, _, rfl, _, DGet.k (k := Sum.inr x) hb, ?_⟩
      rw [bk_get, en]
      exact k
    | false =>
      rw [e, if_neg (by decide)] at k
      obtain ⟨hc, h1, h2, h3⟩ := hd e
      rw [hc]
      have pos := digVal_pos h2 h1 h3
      have l2 := len_cs x
      have it := int_of h1 h2 (by omega)
      rw [st_cs] at it
      refine if_no rfl ⟨_, rfl, x, _, rfl, it, by omega, ?_⟩
      refine ⟨_, rfl, g, _, rfl, .inl ev.gv, _, _, rfl, rfl, _, rfl, ?_⟩
      rw [List.length_map]
      refine if_by (fun e3 => ?_) (fun e3 => ?_)
      · have hle : digVal (cs x) ≤ Ee.ar.length := by
          have := of_decide_eq_true e3
          omega
        rw [if_pos hle] at k
        obtain ⟨y, hy⟩ : ∃ y, Ee.ar[digVal (cs x) - 1]? = some y := ⟨_, List.getElem?_eq_getElem (by omega)⟩
        rw [hy] at k
        refine ⟨_, rfl, _, rfl, x, _, rfl, it, by omega, _, _, rfl, rfl, g, _, _, _, rfl, rfl, ev.gv, ?_, k⟩
        rw [show ((digVal (cs x) : Nat) : Int) - 1 = ((digVal (cs x) - 1 : Nat) : Int) by omega]
        exact atI_nat (by rw [List.getElem?_map, hy]; rfl)
      · have hle : ¬ digVal (cs x) ≤ Ee.ar.length := by
          have := of_decide_eq_false e3
          omega
        rw [if_neg hle] at k
        exact k
end
end Qb
end PySem
namespace PySem
namespace Qb
open PySem.W PySem.Calls PyProof.Rows L2
/-! # the law's joined numbers -/
def jl (t : Sm) (s : Str) (i j : Int) : Rs := if s = "&&" ∨ s = "||" then tru (decide (j ≠ 0)) else jr t s i j
def jlR (t : Sm) (s : Str) (i j : Int) : Rs := if s = "&&" ∨ s = "||" then tru (decide (j ≠ 0)) else jn t s i j
theorem jl_R (t : Sm) (s : Str) (i j : Int) : jlR t s i j = (jl t s i j).then (chk t) := by
  unfold jlR jl
  split
  · cases decide (j ≠ 0)
    · rfl
    · rfl
  · exact jn_jr _ _ _ _
theorem cut_law (i j : Int) : ((i.natAbs : Nat) : Int) / ((j.natAbs : Nat) : Int) * (if decide (i < 0) = decide (j < 0) then 1 else -1) = cutQ i j := by
  unfold cutQ
  have e : ((i.natAbs : Nat) : Int) / ((j.natAbs : Nat) : Int) = ((i.natAbs / j.natAbs : Nat) : Int) := rfl
  rw [e]
  split
  · rw [Int.mul_one]
  · rw [Int.mul_neg, Int.mul_one]
theorem sgn_ix : ∀ (x y : Bool), atI [V.int 1, V.int (-1)] (if (!decide (V.bl x = V.bl y)) = true then 1 else 0) = some (V.int (if x = y then 1 else -1))
  | true, true => rfl
  | true, false => rfl
  | false, true => rfl
  | false, false => rfl
abbrev sg8 : List Str := ["<", "<=", ">", ">=", "==", "!=", "&&", "||"]
abbrev tr8 (i j : Int) : List Bool := [decide (i < j), decide (i ≤ j), decide (i > j), decide (i ≥ j), decide (i = j), decide (i ≠ j), decide (j ≠ 0), decide (j ≠ 0)]
theorem sg8_ix {s : Str} (h : s ∈ sg8) (i j : Int) : ∃ k, (sg8.map V.str)[k]? = some (.str s) ∧ (∀ (m : Nat) (z : V), m < k → (sg8.map V.str)[m]? = some z → eqV z (.str s) = false) ∧ ((tr8 i j).map V.bl)[k]? = some (.bl (if s = "&&" ∨ s = "||" then decide (j ≠ 0) else cmpB s i j)) := by
  have bef : ∀ (k : Nat) (s : Str), (∀ m < k, ∀ x ∈ sg8[m]?, x ≠ s) → ∀ (m : Nat) (z : V), m < k → (sg8.map V.str)[m]? = some z → eqV z (.str s) = false := fun k s q m z hm hz => by
    rw [List.getElem?_map] at hz
    cases e : sg8[m]? with
    | none => rw [e] at hz; cases hz
    | some x =>
      rw [e] at hz
      cases hz
      have n := q m hm x (by rw [e]; rfl)
      show (x == s) = false
      exact beq_eq_false_iff_ne.mpr n
  have h : s ∈ (["<", "<=", ">", ">=", "==", "!=", "&&", "||"] : List Str) := h
  simp only [List.mem_cons, List.not_mem_nil, or_false] at h
  rcases h with rfl | rfl | rfl | rfl | rfl | rfl | rfl | rfl
  · exact ⟨0, rfl, bef 0 _ (by decide +kernel), by rw [if_neg (by decide +kernel)]; unfold cmpB; rw [if_pos rfl]; rfl⟩
  · exact ⟨1, rfl, bef 1 _ (by decide +kernel), by rw [if_neg (by decide +kernel)]; unfold cmpB; rw [if_neg (by decide +kernel), if_pos rfl]; rfl⟩
  · exact ⟨2, rfl, bef 2 _ (by decide +kernel), by rw [if_neg (by decide +kernel)]; unfold cmpB; rw [if_neg (by decide +kernel), if_neg (by decide +kernel), if_pos rfl]; rfl⟩
  · exact ⟨3, rfl, bef 3 _ (by decide +kernel), by rw [if_neg (by decide +kernel)]; unfold cmpB; rw [if_neg (by decide +kernel), if_neg (by decide +kernel), if_neg (by decide +kernel), if_pos rfl]; rfl⟩
  · exact ⟨4, rfl, bef 4 _ (by decide +kernel), by rw [if_neg (by decide +kernel)]; unfold cmpB; rw [if_neg (by decide +kernel), if_neg (by decide +kernel), if_neg (by decide +kernel), if_neg (by decide +kernel), if_pos rfl]; rfl⟩
  · exact ⟨5, rfl, bef 5 _ (by decide +kernel), by rw [if_neg (by decide +kernel)]; unfold cmpB; rw [if_neg (by decide +kernel), if_neg (by decide +kernel), if_neg (by decide +kernel), if_neg (by decide +kernel), if_neg (by decide +kernel)]; rfl⟩
  · exact ⟨6, rfl, bef 6 _ (by decide +kernel), by rw [if_pos (.inl rfl)]; rfl⟩
  · exact ⟨7, rfl, bef 7 _ (by decide +kernel), by rw [if_pos (.inr rfl)]; rfl⟩
abbrev pm3 : List Str := ["+", "-", "*"]
theorem pm3_ix {t : Sm} {s : Str} (h : s ∈ pm3) (i j : Int) : ∃ (k : Nat) (q : Int), (pm3.map V.str)[k]? = some (.str s) ∧ (∀ (m : Nat) (z : V), m < k → (pm3.map V.str)[m]? = some z → eqV z (.str s) = false) ∧ ([V.int (i + j), V.int (i - j), V.int (i * j)])[k]? = some (.int q) ∧ jl t s i j = .ok q := by
  have bef : ∀ (k : Nat) (s : Str), (∀ m < k, ∀ x ∈ pm3[m]?, x ≠ s) → ∀ (m : Nat) (z : V), m < k → (pm3.map V.str)[m]? = some z → eqV z (.str s) = false := fun k s q m z hm hz => by
    rw [List.getElem?_map] at hz
    cases e : pm3[m]? with
    | none => rw [e] at hz; cases hz
    | some x =>
      rw [e] at hz
      cases hz
      have n := q m hm x (by rw [e]; rfl)
      show (x == s) = false
      exact beq_eq_false_iff_ne.mpr n
  have h : s ∈ (["+", "-", "*"] : List Str) := h
  simp only [List.mem_cons, List.not_mem_nil, or_false] at h
  rcases h with rfl | rfl | rfl
  · exact ⟨0, _, rfl, bef 0 _ (by decide +kernel), rfl, by unfold jl jr; rw [if_neg (by decide +kernel), if_neg (by decide +kernel), if_pos rfl]⟩
  · exact ⟨1, _, rfl, bef 1 _ (by decide +kernel), rfl, by unfold jl jr; rw [if_neg (by decide +kernel), if_neg (by decide +kernel), if_neg (by decide +kernel), if_pos rfl]⟩
  · exact ⟨2, _, rfl, bef 2 _ (by decide +kernel), rfl, by unfold jl jr; rw [if_neg (by decide +kernel), if_pos rfl]⟩
theorem op_split {s : Str} (h : isOp s = true) : s ∈ (["/", "^"] : List Str) ∨ s ∈ (["+", "-", "*"] : List Str) ∨ s ∈ sg8 := by
  obtain ⟨c, m⟩ := op_tpk h
  have key : ∀ p ∈ tpk, p.1 ∈ (["/", "^"] : List Str) ∨ p.1 ∈ (["+", "-", "*"] : List Str) ∨ p.1 ∈ sg8 := by decide +kernel
  exact key _ m
theorem ne_i (a b : Int) : (!decide (V.int a = V.int b)) = decide (a ≠ b) := by
  by_cases c : a = b
  · subst c; simp
  · rw [decide_eq_false (fun z => c (V.int.inj z)), decide_eq_true c]; rfl
theorem eq_i (a b : Int) : decide (V.int a = V.int b) = decide (a = b) := decide_eq_decide.mpr ⟨V.int.inj, congrArg V.int⟩
def spLj (K : Frag) : Sp := fun vs H Q _ => ∃ (v : V) (s : Str) (a b : Sm) (i j : Int), vs = [v, .int i, .int j] ∧ Dp K H v (Sm.two s a b).d ∧ isOp s = true ∧ i.natAbs < 2 ^ 133 ∧ j.natAbs < 2 ^ 133 ∧ ∀ H' u, Same H H' → Dp K H' u (jlR (.two s a b) s i j).d → Q u H'
section
variable {P : Program} {w : World} {K : Frag} {mg : Str → Option Value} {base : Heap}
abbrev sLj : Stmt := top 67
abbrev nLj : List Str := ["_law_node", "_law_first", "_law_second", "_law_whole", "_law_number", "_law_truths", "_law_signs"]
theorem scLj : FnScope nLj ["_law_node", "_law_first", "_law_second"] (defScope sLj) := ⟨rfl, rfl, rfl, by decide +kernel, rfl, by decide +kernel, by decide +kernel⟩
theorem has_Lj {f : Addr} {fd : FuncData}  (F : Fun K "_law_joined" "_law_joined" sLj f fd) (g : mg "_law_joined" = some (.ref f)) (B : Blt mg)  :
    Has P w K mg base 1 "_law_joined" ["_law_node", "_law_first", "_law_second"] (spLj K) := by
  refine has_of F g (F.binds (ps := ["_law_node", "_law_first", "_law_second"]) fun _ _ _ _ _ _ us hl => match us, hl with | [_, _, _], _ => rfl) (F.ok scLj (fun vs H Q E h => ?_) (fun cdv A outer s H vs Q E hr h => ?_))
  · obtain ⟨v, sg, a, b, i, j, rfl, _⟩ := h
    rfl
  · refine ⟨_, (pss_cons (ps_weak (ps_if (pt_cmpR op_in_seq (pe_ix ix_tup (pv 0) pe_int (fun _ _ => rfl)) (pe_lst (pa_cons pe_str (pa_cons pe_str pa_nil))) (by rfl)) (pss_cons (ps_if (pt_cmpR op_eq (pv 2) pe_int (nomark _)) (pss_one (ps_ret (pe_tup (pa_cons pe_str (pa_cons (pv 0) pa_nil))))) pss_nil)
          (pss_cons (ps_set (i := 3) scLj.nd rfl (.inl rfl) (pe_op op_mulW (pe_op op_fdivW (pe_callB call_abs (by rfl) B.abs (by decide +kernel) (pa_cons (pv 1) pa_nil)) (pe_callB call_abs (by rfl) B.abs (by decide +kernel) (pa_cons (pv 2) pa_nil))) (pe_ix ix_list (pe_lst (pa_cons pe_int (pa_cons (pe_un un_neg pe_int) pa_nil))) (pe_callTy call_int1 (by rfl) B.int (by decide +kernel) (pa_cons (pe_cmpR op_ne (pe_cmpR op_lt (pv 1) pe_int (nomark _)) (pe_cmpR op_lt (pv 2) pe_int (nomark _)) (nomark _)) pa_nil)) (fun _ _ => rfl))))
          (pss_one (ps_set (i := 4) scLj.nd rfl (.inl rfl) (pe_ix ix_list (pe_lst (pa_cons (pv 3) (pa_cons (pe_op op_sub (pv 1) (pe_op op_mulW (pv 3) (pv 2))) pa_nil))) (pe_callTy call_int1 (by rfl) B.int (by decide +kernel) (pa_cons (pe_cmpR op_eq (pe_ix ix_tup (pv 0) pe_int (fun _ _ => rfl)) pe_str (nomark _)) pa_nil)) (fun _ _ => rfl)))))) (pss_one (ps_if (pt_cmpR op_in_seq (pe_ix ix_tup (pv 0) pe_int (fun _ _ => rfl)) (pe_lst (pa_cons pe_str (pa_cons pe_str (pa_cons pe_str pa_nil)))) (by rfl)) (pss_one (ps_set (i := 4) scLj.nd rfl (.inl rfl) (pe_ix ix_list (pe_lst (pa_cons (pe_op op_add (pv 1) (pv 2)) (pa_cons (pe_op op_sub (pv 1) (pv 2)) (pa_cons (pe_op op_mulW (pv 1) (pv 2)) pa_nil)))) (pe_bm PySem.F.plainAttrs_list PySem.F.slot_list_index PySem.F.type_list_index mt_index (pe_lst (pa_cons pe_str (pa_cons pe_str (pa_cons pe_str pa_nil)))) (pa_cons (pe_ix ix_tup (pv 0) pe_int (fun _ _ => rfl)) pa_nil)) (fun _ _ => rfl)))) (pss_cons (ps_set (i := 5) scLj.nd rfl (.inl rfl) (pe_lst (pa_cons (pe_cmpR op_lt (pv 1) (pv 2) (nomark _)) (pa_cons (pe_cmpR op_le (pv 1) (pv 2) (nomark _)) (pa_cons (pe_cmpR op_gt (pv 1) (pv 2) (nomark _)) (pa_cons (pe_cmpR op_ge (pv 1) (pv 2) (nomark _)) (pa_cons (pe_cmpR op_eq (pv 1) (pv 2) (nomark _)) (pa_cons (pe_cmpR op_ne (pv 1) (pv 2) (nomark _)) pa_nil))))))))
            (pss_cons (ps_set (i := 6) scLj.nd rfl (.inl rfl) (pe_lst (pa_cons pe_str (pa_cons pe_str (pa_cons pe_str (pa_cons pe_str (pa_cons pe_str (pa_cons pe_str (pa_cons pe_str (pa_cons pe_str pa_nil))))))))))
            (pss_one (ps_set (i := 4) scLj.nd rfl (.inl rfl) (pe_callTy call_int1 (by rfl) B.int (by decide +kernel) (pa_cons (pe_ix ix_list (pe_op op_cat (pv 5) (pe_lst (pa_cons (pe_cmpR op_ne (pv 2) pe_int (nomark _)) (pa_cons (pe_cmpR op_ne (pv 2) pe_int (nomark _)) pa_nil)))) (pe_bm PySem.F.plainAttrs_list PySem.F.slot_list_index PySem.F.type_list_index mt_index (pv 6) (pa_cons (pe_ix ix_tup (pv 0) pe_int (fun _ _ => rfl)) pa_nil)) (fun _ _ => rfl)) pa_nil))))))))))
        (pss_cons (ps_if (pt_cmpR op_ge (pe_callB call_abs (by rfl) B.abs (by decide +kernel) (pa_cons (pv 4) pa_nil)) (pe_op op_pow pe_int pe_int) (nomark _)) (pss_one (ps_ret (pe_tup (pa_cons pe_str (pa_cons (pv 0) pa_nil))))) pss_nil)
        (pss_one (ps_ret (pe_tup (pa_cons pe_str (pa_cons (pv 4) pa_nil))))))), ?_⟩
    obtain ⟨v, sg, a, b, i, j, rfl, hd, op, hi, hj, k⟩ := h
    obtain ⟨p, x, y, rfl, hq, hx, hy⟩ := pc_three hd
    rw [jl_R] at k
    refine ⟨fun σ' H' => ∃ (q : Int) (x3 x5 x6 : Option V), σ' = [some (.ref p), some (.int i), some (.int j), x3, some (.int q), x5, x6] ∧ Same H H' ∧ jl (.two sg a b) sg i j = .ok q, ?_, ?_⟩
    · rintro σ' H' ⟨q, x3, x5, x6, rfl, s1, eq⟩
      rw [eq] at k
      have k' : ∀ H' u, Same H H' → Dp K H' u (chk (.two sg a b) q).d → Q u H' := k
      unfold chk at k'
      refine ⟨_, rfl, _, rfl, _, _, rfl, rfl, ⟨by decide, by decide, by decide⟩, _, _, rfl, rfl, _, rfl, ?_⟩
      rw [abs_nat]
      refine if_by (fun e => ?_) (fun e => ?_)
      · have c : top40 ≤ (q.natAbs : Int) := of_decide_eq_true e
        rw [if_pos c] at k'
        refine ⟨_, rfl, (by decide : 2 ≤ sizeLine), fun T nT => ?_⟩
        have s2 := same_upd (o := .tup [.str "TooGreat", .ref p]) nT
        exact k' _ _ (s1.trans s2) (.tup (SqT.of upd_same) (.cons (.str _) (.cons (dp_same (s1.trans s2) hd) .nil)))
      · have c : ¬ top40 ≤ (q.natAbs : Int) := of_decide_eq_false e
        rw [if_neg c] at k'
        refine ⟨_, rfl, (by decide : 2 ≤ sizeLine), fun T nT => ?_⟩
        have s2 := same_upd (o := .tup [.str "number", .int q]) nT
        exact k' _ _ (s1.trans s2) (.tup (SqT.of upd_same) (.cons (.str _) (.cons (.int _) .nil)))
    · have nn : ∀ {c : Str}, c ∉ sg8 → sg = c → (sg = "&&" ∨ sg = "||" → False) := fun h e z => by
        rw [e] at z
        exact h (by rcases z with z | z <;> (rw [z]; decide +kernel))
      refine ⟨_, rfl, p, _, 0, _, rfl, rfl, hq, at0, (by decide : 2 ≤ sizeLine), fun L1 nL1 => ?_⟩
      have s1 := same_upd (o := .lst ((["/", "^"] : List Str).map V.str)) nL1
      refine ⟨L1, (["/", "^"] : List Str).map V.str, rfl, .inl (SqL.of upd_same), rfl, by decide +kernel, _, rfl, ?_⟩
      dsimp only
      rw [if_neg (by decide : ¬ false = true), inV_iff]
      replace s1 : Same H (L2.upd H L1 (.lst [.str "/", .str "^"])) := s1
      generalize L2.upd H L1 (.lst [.str "/", .str "^"]) = H1 at s1 ⊢
      have hq1 := sqT_same s1 hq
      refine if_by (fun e => ?_) (fun e => ?_)
      · have m : sg = "/" ∨ sg = "^" := by
          have m : sg ∈ (["/", "^"] : List Str) := of_decide_eq_true e
          simpa using m
        have nsg : ¬(sg = "&&" ∨ sg = "||") := by rcases m with m | m <;> exact nn (by decide +kernel) m
        have ej : jl (.two sg a b) sg i j = if j = 0 then .er (.zero (.two sg a b)) else .ok (if sg = "/" then cutQ i j else i - j * cutQ i j) := by
          unfold jl jr
          have key : ∀ z : Str, (sg = z) → z ∉ (["/", "^"] : List Str) → False := fun z ez nz => nz (by rw [← ez]; exact of_decide_eq_true e)
          rw [if_neg nsg, if_neg (fun z => key _ z (by decide +kernel)), if_neg (fun z => key _ z (by decide +kernel)), if_neg (fun z => key _ z (by decide +kernel)), if_pos m]
        refine ⟨_, rfl, rfl, _, rfl, ?_⟩
        rw [eq_i]
        refine if_by (fun e2 => ?_) (fun e2 => ?_)
        · rw [ej, if_pos (of_decide_eq_true e2)] at k
          refine ⟨_, rfl, (by decide : 2 ≤ sizeLine), fun T nT => ?_⟩
          have s2 := same_upd (o := .tup [.str "DividedByZero", .ref p]) nT
          exact k _ _ (s1.trans s2) (.tup (SqT.of upd_same) (.cons (.str _) (.cons (dp_same (s1.trans s2) hd) .nil)))
        · have j0 : j ≠ 0 := of_decide_eq_false e2
          rw [if_neg j0] at ej
          have e1 := abs_nat i
          have e2 := abs_nat j
          refine ⟨_, rfl, _, rfl, _, rfl, _, rfl, _, _, rfl, rfl, ?_, ?_⟩
          · rw [e2]
            exact wide_div (b := 200) (by omega) (by rw [Int.natAbs_natCast]; exact Nat.lt_trans hj (by decide)) (by decide) (by decide)
          rw [e1, e2]
          refine ⟨_, rfl, (by decide : 2 ≤ sizeLine), fun L2' nL2 => ?_⟩
          have s2 := same_upd (o := .lst [.int 1, .int (-1)]) nL2
          have hL2 : (L2.upd H1 L2' (.lst [.int 1, .int (-1)])) L2' = some (.lst [.int 1, .int (-1)]) := upd_same
          replace s2 : Same H1 (L2.upd H1 L2' (.lst [.int 1, .int (-1)])) := s2
          generalize L2.upd H1 L2' (.lst [.int 1, .int (-1)]) = H2 at s2 hL2 ⊢
          refine ⟨_, rfl, _, _, rfl, rfl, _, rfl, _, _, rfl, rfl, rfl, .inr ⟨_, rfl, L2', _, _, .int (if decide (i < 0) = decide (j < 0) then 1 else -1), rfl, rfl, SqL.of hL2, ?_, ?_⟩⟩
          · exact sgn_ix (decide (i < 0)) (decide (j < 0))
          refine ⟨_, _, rfl, rfl, ?_, ?_⟩
          · refine wide_mul (a := 140) (b := 2) ?_ ?_ (by decide) (by decide) (by decide)
            · have z := Nat.div_le_self i.natAbs j.natAbs
              show (((i.natAbs / j.natAbs : Nat) : Int)).natAbs < _
              rw [Int.natAbs_natCast]
              exact Nat.lt_of_le_of_lt z (Nat.lt_trans hi (by decide))
            · split <;> decide
          dsimp only
          rw [cut_law]
          refine ⟨_, rfl, _, rfl, _, rfl, _, rfl, _, _, rfl, rfl, ?_, _, _, rfl, rfl, (by decide : 2 ≤ sizeLine), fun L3 nL3 => ?_⟩
          · exact wide_mul (a := 140) (b := 140) (Nat.lt_of_le_of_lt (cutQ_lt i j) (Nat.lt_trans hi (by decide))) (Nat.lt_trans hj (by decide)) (by decide) (by decide) (by decide)
          have s3 := same_upd (o := .lst [.int (cutQ i j), .int (i - cutQ i j * j)]) nL3
          have hL3 : (L2.upd H2 L3 (.lst [.int (cutQ i j), .int (i - cutQ i j * j)])) L3 = some (.lst [.int (cutQ i j), .int (i - cutQ i j * j)]) := upd_same
          generalize L2.upd H2 L3 (.lst [.int (cutQ i j), .int (i - cutQ i j * j)]) = H3 at s3 hL3 ⊢
          have s23 := s1.trans (s2.trans s3)
          refine ⟨_, rfl, p, _, 0, _, rfl, rfl, sqT_same s23 hq, at0, rfl, .inr ⟨_, rfl, L3, _, _, .int (if sg = "/" then cutQ i j else i - cutQ i j * j), rfl, rfl, SqL.of hL3, ?_, _, _, _, _, rfl, s23, ?_⟩⟩
          · have e3 : decide (V.str sg = V.str "^") = !decide (sg = "/") := by
              rcases m with rfl | rfl
              · decide +kernel
              · decide +kernel
            rw [e3]
            by_cases c : sg = "/"
            · rw [if_pos c, decide_eq_true c]; rfl
            · rw [if_neg c, decide_eq_false c]; rfl
          · rw [ej, Int.mul_comm (cutQ i j) j]
      · refine ⟨_, rfl, p, _, 0, _, rfl, rfl, hq1, at0, (by decide : 3 ≤ sizeLine), fun L2' nL2 => ?_⟩
        have s2 := same_upd (o := .lst ((["+", "-", "*"] : List Str).map V.str)) nL2
        refine ⟨L2', (["+", "-", "*"] : List Str).map V.str, rfl, .inl (SqL.of upd_same), rfl, by decide +kernel, _, rfl, ?_⟩
        dsimp only
        rw [if_neg (by decide : ¬ false = true), inV_iff]
        replace s2 : Same H1 (L2.upd H1 L2' (.lst [.str "+", .str "-", .str "*"])) := s2
        generalize L2.upd H1 L2' (.lst [.str "+", .str "-", .str "*"]) = H2 at s2 ⊢
        have s12 := s1.trans s2
        have hq2 := sqT_same s12 hq
        have n1 : sg ∉ (["/", "^"] : List Str) := of_decide_eq_false e
        refine if_by (fun e2 => ?_) (fun e2 => ?_)
        · have m2 : sg ∈ (["+", "-", "*"] : List Str) := of_decide_eq_true e2
          refine ⟨_, rfl, _, rfl, _, _, rfl, rfl, _, rfl, _, rfl, _, _, rfl, rfl, _, rfl, _, rfl, _, _, rfl, rfl, wide_mul (a := 140) (b := 140) (Nat.lt_trans hi (by decide)) (Nat.lt_trans hj (by decide)) (by decide) (by decide) (by decide), (by decide : 3 ≤ sizeLine), fun L3 nL3 => ?_⟩
          have s3 := same_upd (o := .lst [.int (i + j), .int (i - j), .int (i * j)]) nL3
          have hL3 : (L2.upd H2 L3 (.lst [.int (i + j), .int (i - j), .int (i * j)])) L3 = some (.lst [.int (i + j), .int (i - j), .int (i * j)]) := upd_same
          generalize L2.upd H2 L3 (.lst [.int (i + j), .int (i - j), .int (i * j)]) = H3 at s3 hL3 ⊢
          refine ⟨(by decide : 3 ≤ sizeLine), fun L4 nL4 => ?_⟩
          have s4 := same_upd (o := .lst [.str "+", .str "-", .str "*"]) nL4
          have hL4 : (L2.upd H3 L4 (.lst [.str "+", .str "-", .str "*"])) L4 = some (.lst [.str "+", .str "-", .str "*"]) := upd_same
          generalize L2.upd H3 L4 (.lst [.str "+", .str "-", .str "*"]) = H4 at s4 hL4 ⊢
          have s24 := s12.trans (s3.trans s4)
          obtain ⟨kx, q, k1, k2, k3, k4⟩ := pm3_ix (t := .two sg a b) m2 i j
          refine ⟨.inl ⟨rfl, _, SqL.of hL4⟩, _, rfl, p, _, 0, _, rfl, rfl, sqT_same s24 hq, at0, L4, _, _, kx, _, rfl, rfl, SqL.of hL4, rfl, rfl, k1, beq_self_eq_true sg, k2, ?_⟩
          exact ⟨L3, _, _, _, rfl, rfl, SqL.of (s4 _ _ hL3), atI_nat k3, q, _, _, _, rfl, s24, k4⟩
        · have m8 : sg ∈ sg8 := by
            rcases op_split op with z | z | z
            · exact (n1 z).elim
            · exact (of_decide_eq_false e2 z).elim
            · exact z
          obtain ⟨kx, k1, k2, k3⟩ := sg8_ix m8 i j
          have en : (!decide (V.int i = V.int j)) = decide (i ≠ j) := ne_i i j
          refine ⟨_, rfl, _, rfl, _, _, rfl, rfl, _, rfl, _, rfl, _, _, rfl, rfl, _, rfl, _, rfl, _, _, rfl, rfl, _, rfl, _, rfl, _, _, rfl, rfl, _, rfl, _, rfl, rfl, _, rfl, _, rfl, rfl, (by decide : 6 ≤ sizeLine), fun L5 nL5 => ?_⟩
          dsimp only at nL5 ⊢
          rw [eq_i, show (!decide (i = j)) = decide (i ≠ j) by simp]
          have s3 := same_upd (o := .lst [.bl (decide (i < j)), .bl (decide (i ≤ j)), .bl (decide (i > j)), .bl (decide (i ≥ j)), .bl (decide (i = j)), .bl (decide (i ≠ j))]) nL5
          have hL5 : (L2.upd H2 L5 (.lst [.bl (decide (i < j)), .bl (decide (i ≤ j)), .bl (decide (i > j)), .bl (decide (i ≥ j)), .bl (decide (i = j)), .bl (decide (i ≠ j))])) L5 = some (.lst [.bl (decide (i < j)), .bl (decide (i ≤ j)), .bl (decide (i > j)), .bl (decide (i ≥ j)), .bl (decide (i = j)), .bl (decide (i ≠ j))]) := upd_same
          generalize L2.upd H2 L5 (.lst [.bl (decide (i < j)), .bl (decide (i ≤ j)), .bl (decide (i > j)), .bl (decide (i ≥ j)), .bl (decide (i = j)), .bl (decide (i ≠ j))]) = H5 at s3 hL5 ⊢
          refine ⟨(by decide : 8 ≤ sizeLine), fun L6 nL6 => ?_⟩
          have s4 := same_upd (o := .lst (sg8.map V.str)) nL6
          have hL6 : (L2.upd H5 L6 (.lst (sg8.map V.str))) L6 = some (.lst (sg8.map V.str)) := upd_same
          replace s4 : Same H5 (L2.upd H5 L6 (.lst [.str "<", .str "<=", .str ">", .str ">=", .str "==", .str "!=", .str "&&", .str "||"])) := s4
          replace hL6 : (L2.upd H5 L6 (.lst [.str "<", .str "<=", .str ">", .str ">=", .str "==", .str "!=", .str "&&", .str "||"])) L6 = some (.lst (sg8.map V.str)) := hL6
          generalize L2.upd H5 L6 (.lst [.str "<", .str "<=", .str ">", .str ">=", .str "==", .str "!=", .str "&&", .str "||"]) = H6 at s4 hL6 ⊢
          refine ⟨_, rfl, _, rfl, rfl, _, rfl, rfl, (by decide : 2 ≤ sizeLine), fun L7 nL7 => ?_⟩
          dsimp only at nL7 ⊢
          rw [ne_i]
          have s5 := same_upd (o := .lst [.bl (decide (j ≠ 0)), .bl (decide (j ≠ 0))]) nL7
          have hL7 : (L2.upd H6 L7 (.lst [.bl (decide (j ≠ 0)), .bl (decide (j ≠ 0))])) L7 = some (.lst [.bl (decide (j ≠ 0)), .bl (decide (j ≠ 0))]) := upd_same
          generalize L2.upd H6 L7 (.lst [.bl (decide (j ≠ 0)), .bl (decide (j ≠ 0))]) = H7 at s5 hL7 ⊢
          refine ⟨L5, L7, _, _, rfl, rfl, s5 _ _ (s4 _ _ hL5), hL7, (by decide : 6 + 2 ≤ sizeLine), fun L8 nL8 => ?_⟩
          have s6 := same_upd (o := .lst ((tr8 i j).map V.bl)) nL8
          have hL8 : (L2.upd H7 L8 (.lst ((tr8 i j).map V.bl))) L8 = some (.lst ((tr8 i j).map V.bl)) := upd_same
          replace s6 : Same H7 (L2.upd H7 L8 (.lst ([.bl (decide (i < j)), .bl (decide (i ≤ j)), .bl (decide (i > j)), .bl (decide (i ≥ j)), .bl (decide (i = j)), .bl (decide (i ≠ j))] ++ [.bl (decide (j ≠ 0)), .bl (decide (j ≠ 0))]))) := s6
          replace hL8 : (L2.upd H7 L8 (.lst ([.bl (decide (i < j)), .bl (decide (i ≤ j)), .bl (decide (i > j)), .bl (decide (i ≥ j)), .bl (decide (i = j)), .bl (decide (i ≠ j))] ++ [.bl (decide (j ≠ 0)), .bl (decide (j ≠ 0))]))) L8 = some (.lst ((tr8 i j).map V.bl)) := hL8
          generalize L2.upd H7 L8 (.lst ([.bl (decide (i < j)), .bl (decide (i ≤ j)), .bl (decide (i > j)), .bl (decide (i ≥ j)), .bl (decide (i = j)), .bl (decide (i ≠ j))] ++ [.bl (decide (j ≠ 0)), .bl (decide (j ≠ 0))])) = H8 at s6 hL8 ⊢
          have s36 := s3.trans (s4.trans (s5.trans s6))
          have hL68 := s6 _ _ (s5 _ _ hL6)
          refine ⟨_, rfl, .inl ⟨rfl, _, SqL.of hL68⟩, _, rfl, p, _, 0, _, rfl, rfl, sqT_same (s12.trans s36) hq, at0, L6, _, _, kx, _, rfl, rfl, SqL.of hL68, rfl, rfl, k1, beq_self_eq_true sg, k2, ?_⟩
          refine ⟨L8, _, _, _, rfl, rfl, SqL.of hL8, atI_nat k3, .inr ⟨_, rfl, (if (if sg = "&&" ∨ sg = "||" then decide (j ≠ 0) else cmpB sg i j) = true then 1 else 0), _, _, _, rfl, s12.trans s36, ?_⟩⟩
          unfold jl tru
          by_cases c : sg = "&&" ∨ sg = "||"
          · rw [if_pos c, if_pos c]
          · have key : ∀ z : Str, sg = z → z ∉ sg8 → False := fun z ez nz => nz (by rw [← ez]; exact m8)
            unfold jr
            rw [if_neg c, if_neg c, if_neg (fun z => key _ z (by decide +kernel)), if_neg (fun z => key _ z (by decide +kernel)), if_neg (fun z => key _ z (by decide +kernel)), if_neg (fun z => z.elim (fun z => key _ z (by decide +kernel)) (fun z => key _ z (by decide +kernel)))]
end
end Qb
end PySem
namespace PySem
namespace Qb
open PySem.W PySem.Calls PyProof.Rows L2
/-! # the law's value of a sum -/
def spLv (K : Frag) : Nat → Sp
  | 0 => fun _ _ _ _ => False
  | n + 1 => fun vs H Q _ => ∃ (v : V) (t : Sm) (b g : Addr) (Ee : Ev), vs = [v, .ref b, .ref g] ∧ Dp K H v t.d ∧ t.ht ≤ n ∧ t.nice ∧ t.wok ∧ EvOk K H b g Ee ∧ ∀ H' u, Same H H' → Dp K H' u (vl Ee t).d → Q u H'
theorem rs_er {K : Frag} {H : Hp} {u : V} {e : Er} (h : Dp K H u (Rs.er e).d) : ∃ a x, u = .ref a ∧ SqT K H a [.str e.k, x] := by
  obtain ⟨a, x, rfl, hq, _⟩ := pc_two h
  exact ⟨a, x, rfl, hq⟩
theorem opn {s x : Str} (h : isOp s = true) (hx : isOp x = false) : decide (V.str s = V.str x) = false := s_ne fun z => by
  rw [z, hx] at h
  cases h
theorem ek_ne : ∀ (e : Er), decide (V.str e.k = V.str "number") = false
  | .noI _ => s_ne (s := "NoInteger") (by decide +kernel)
  | .great _ => s_ne (s := "TooGreat") (by decide +kernel)
  | .zero _ => s_ne (s := "DividedByZero") (by decide +kernel)
theorem next_seq {a b : TS} {D D' : Ends} {σ : L2.St} {H : Hp} (h : a { D with nx := b D } σ H) : tNext { D' with nx := tSeq a b D } σ H := h
theorem or_test {t1 t2 t3 t4 : TT} {A B : TS} {D : Ends} {σ : L2.St} {H : Hp} {b1 b2 b3 b4 : Bool} (h1 : ∀ Q : Bool → Hp → Prop, Q b1 H → t1 σ H Q) (h2 : ∀ Q : Bool → Hp → Prop, Q b2 H → t2 σ H Q) (h3 : ∀ Q : Bool → Hp → Prop, Q b3 H → t3 σ H Q) (h4 : ∀ Q : Bool → Hp → Prop, Q b4 H → t4 σ H Q)
    (k : if (b1 && b2 || b3 && b4) = true then A D σ H else B D σ H) : tIfS (tOr (tAnd t1 t2) (tAnd t3 t4)) A B D σ H := by
  refine h1 _ ?_
  cases b1 with
  | true =>
    refine if_yes rfl (h2 _ ?_)
    cases b2 with
    | true => exact if_yes rfl k
    | false =>
      refine if_no rfl (h3 _ ?_)
      cases b3 with
      | true => exact if_yes rfl (h4 _ k)
      | false => exact if_no rfl k
  | false =>
    refine if_no rfl (if_no rfl (h3 _ ?_))
    cases b3 with
    | true => exact if_yes rfl (h4 _ k)
    | false => exact if_no rfl k
section
variable {P : Program} {w : World} {K : Frag} {mg : Str → Option Value} {base : Heap}
abbrev sLv : Stmt := top 68
abbrev nLv : List Str := ["_law_node", "_law_book", "_law_given", "_law_shown", "_law_number", "_law_first", "_law_second"]
theorem scLv : FnScope nLv ["_law_node", "_law_book", "_law_given"] (defScope sLv) := ⟨rfl, rfl, rfl, by decide +kernel, rfl, by decide +kernel, by decide +kernel⟩
theorem ok_Lv {f : Addr} {fd : FuncData} (F : Fun K "_law_value" "_law_value" sLv f fd) (gLv : mg "_law_value" = some (.ref f)) (bLv : Binds K fd ["_law_node", "_law_book", "_law_given"] []) (B : Blt mg) (hHe : Has P w K mg base 1 "_law_held" ["_law_word", "_law_book", "_law_given"] (spHe K)) (hIn : Has P w K mg base 1 "_law_integer" ["_law_shown"] (spLi)) (hLj : Has P w K mg base 1 "_law_joined" ["_law_node", "_law_first", "_law_second"] (spLj K)) :
    ∀ n, FnOk P w K mg base CX0 (n + 2) f fd ["_law_node", "_law_book", "_law_given"] (spLv K n)
  | 0 => F.ok scLv (fun vs H Q E h => h.elim) (fun cdv A outer s H vs Q E hr h => h.elim)
  | n + 1 => by
    have GLv := ok_Lv F gLv bLv B hHe hIn hLj n
    have kLv := F.kp
    obtain ⟨fHe, dHe, gHe, kHe, bHe, GHe⟩ := hHe
    obtain ⟨fIn, dIn, gIn, kIn, bIn, GIn⟩ := hIn
    obtain ⟨fLj, dLj, gLj, kLj, bLj, GLj⟩ := hLj
    refine F.ok scLv (fun vs H Q E h => ?_) (fun cdv A outer s H vs Q E hr h => ?_)
    · obtain ⟨v, t, b, g, Ee, rfl, _⟩ := h
      rfl
    · refine ⟨_, (pss_cons (ps_if (pt_cmpR op_eq (pe_ix ix_tup (pv 0) pe_int (fun _ _ => rfl)) pe_str (nomark _)) (pss_one (ps_ret (pe_ifExp (pt_cmpR op_lt (pe_ix ix_tup (pv 0) pe_int (fun _ _ => rfl)) (pe_op op_pow pe_int pe_int) (nomark _)) (pe_tup (pa_cons pe_str (pa_cons (pe_ix ix_tup (pv 0) pe_int (fun _ _ => rfl)) pa_nil))) (pe_tup (pa_cons pe_str (pa_cons (pv 0) pa_nil)))))) pss_nil)
        (pss_cons (ps_if (pt_cmpR op_eq (pe_ix ix_tup (pv 0) pe_int (fun _ _ => rfl)) pe_str (nomark _)) (pss_cons (ps_set (i := 3) scLv.nd rfl (.inl rfl) (pe_call GHe (hr.mono (by omega)) rfl gHe kHe bHe .nil pass0 (pa_cons (pe_ix ix_tup (pv 0) pe_int (fun _ _ => rfl)) (pa_cons (pv 1) (pa_cons (pv 2) pa_nil)))))
          (pss_cons (ps_set (i := 4) scLv.nd rfl (.inl rfl) (pe_call GIn (hr.mono (by omega)) rfl gIn kIn bIn .nil pass0 (pa_cons (pv 3) pa_nil)))
          (pss_one (ps_ret (pe_ifExp (pt_cmpR op_isN (pv 4) pe_non (nomark _)) (pe_tup (pa_cons pe_str (pa_cons (pv 3) pa_nil))) (pe_tup (pa_cons pe_str (pa_cons (pv 4) pa_nil)))))))) pss_nil)
        (pss_cons (ps_set (i := 5) scLv.nd rfl (.inl rfl) (pe_call GLv (hr.mono (by omega)) rfl gLv kLv bLv .nil pass0 (pa_cons (pe_ix ix_tup (pv 0) pe_int (fun _ _ => rfl)) (pa_cons (pv 1) (pa_cons (pv 2) pa_nil)))))
        (pss_cons (ps_if (pt_cmpR op_ne (pe_ix ix_tup (pv 5) pe_int (fun _ _ => rfl)) pe_str (nomark _)) (pss_one (ps_ret (pv 5))) pss_nil)
        (pss_cons (ps_if (pt_cmpR op_eq (pe_ix ix_tup (pv 0) pe_int (fun _ _ => rfl)) pe_str (nomark _)) (pss_one (ps_ret (pe_tup (pa_cons pe_str (pa_cons (pe_op op_sub pe_int (pe_ix ix_tup (pv 5) pe_int (fun _ _ => rfl))) pa_nil))))) pss_nil)
        (pss_cons (ps_if (pt_cmpR op_eq (pe_ix ix_tup (pv 0) pe_int (fun _ _ => rfl)) pe_str (nomark _)) (pss_one (ps_ret (pe_tup (pa_cons pe_str (pa_cons (pe_callTy call_int1 (by rfl) B.int (by decide +kernel) (pa_cons (pe_cmpR op_eq (pe_ix ix_tup (pv 5) pe_int (fun _ _ => rfl)) pe_int (nomark _)) pa_nil)) pa_nil))))) pss_nil)
        (pss_cons (ps_if (pt_cmpR op_eq (pe_ix ix_tup (pv 0) pe_int (fun _ _ => rfl)) pe_str (nomark _)) (pss_one (ps_ret (pe_call GLv (hr.mono (by omega)) rfl gLv kLv bLv .nil pass0 (pa_cons (pe_ix ix_tup (pv 0) (pe_op op_add pe_int (pe_callTy call_int1 (by rfl) B.int (by decide +kernel) (pa_cons (pe_cmpR op_eq (pe_ix ix_tup (pv 5) pe_int (fun _ _ => rfl)) pe_int (nomark _)) pa_nil))) (fun _ _ => rfl)) (pa_cons (pv 1) (pa_cons (pv 2) pa_nil)))))) pss_nil)
        (pss_cons (ps_if (PW.pt (pw_or (PW.pt (pw_and (pt_cmpR op_eq (pe_ix ix_tup (pv 0) pe_int (fun _ _ => rfl)) pe_str (nomark _)) (pw_and1 (pt_cmpR op_eq (pe_ix ix_tup (pv 5) pe_int (fun _ _ => rfl)) pe_int (nomark _))))) (pw_or1 (PW.pt (pw_and (pt_cmpR op_eq (pe_ix ix_tup (pv 0) pe_int (fun _ _ => rfl)) pe_str (nomark _)) (pw_and1 (pt_cmpR op_ne (pe_ix ix_tup (pv 5) pe_int (fun _ _ => rfl)) pe_int (nomark _)))))))) (pss_one (ps_ret (pe_tup (pa_cons pe_str (pa_cons (pe_callTy call_int1 (by rfl) B.int (by decide +kernel) (pa_cons (pe_cmpR op_ne (pe_ix ix_tup (pv 5) pe_int (fun _ _ => rfl)) pe_int (nomark _)) pa_nil)) pa_nil))))) pss_nil)
        (pss_cons (ps_set (i := 6) scLv.nd rfl (.inl rfl) (pe_call GLv (hr.mono (by omega)) rfl gLv kLv bLv .nil pass0 (pa_cons (pe_ix ix_tup (pv 0) pe_int (fun _ _ => rfl)) (pa_cons (pv 1) (pa_cons (pv 2) pa_nil)))))
        (pss_cons (ps_if (pt_cmpR op_ne (pe_ix ix_tup (pv 6) pe_int (fun _ _ => rfl)) pe_str (nomark _)) (pss_one (ps_ret (pv 6))) pss_nil)
        (pss_one (ps_ret (pe_call GLj (hr.mono (by omega)) rfl gLj kLj bLj .nil pass0 (pa_cons (pv 0) (pa_cons (pe_ix ix_tup (pv 5) pe_int (fun _ _ => rfl)) (pa_cons (pe_ix ix_tup (pv 6) pe_int (fun _ _ => rfl)) pa_nil)))))))))))))))), ?_⟩
      obtain ⟨v, t, b, g, Ee, rfl, hd, hh, nice, wok, ev, k⟩ := h
      have kid : ∀ {u : Sm} {x : V} {H1 : Hp} {Q' : VK} {E' : XK}, Dp K H1 x u.d → u.ht + 1 ≤ n → u.nice → u.wok → EvOk K H1 b g Ee → (∀ H' y, Same H1 H' → Dp K H' y (vl Ee u).d → Q' y H') → spLv K n ([x, .ref b, .ref g] ++ []) H1 Q' E' := by
        intro u x H1 Q' E' a1 a2 a3 a4 a5 a6
        obtain ⟨n', rfl⟩ : ∃ n', n = n' + 1 := ⟨n - 1, by omega⟩
        exact ⟨x, u, b, g, Ee, rfl, a1, by omega, a3, a4, a5, a6⟩
      cases t with
      | num i =>
        obtain ⟨p, rfl, hq⟩ := dp_num hd
        have k' : ∀ H' u, Same H H' → Dp K H' u (chk (.num i) i).d → Q u H' := k
        have i0 : 0 ≤ i := nice
        unfold chk at k'
        refine ⟨_, rfl, p, _, 0, _, rfl, rfl, hq, at0, rfl, _, rfl, if_yes rfl ?_⟩
        refine ⟨_, rfl, p, _, 1, _, rfl, rfl, hq, atI_nat (j := 1) rfl, _, _, rfl, rfl, ⟨by decide, by decide, by decide⟩, _, _, rfl, rfl, _, rfl, ?_⟩
        refine if_by (fun e => ?_) (fun e => ?_)
        · have c : ¬ top40 ≤ (i.natAbs : Int) := by
            have z : i < 10 ^ 40 := of_decide_eq_true e
            show ¬ (10 ^ 40 : Int) ≤ _
            omega
          rw [if_neg c] at k'
          refine ⟨_, rfl, p, _, 1, _, rfl, rfl, hq, atI_nat (j := 1) rfl, (by decide : 2 ≤ sizeLine), fun T nT => ?_⟩
          have s2 := same_upd (o := .tup [.str "number", .int i]) nT
          exact k' _ _ s2 (.tup (SqT.of upd_same) (.cons (.str _) (.cons (.int _) .nil)))
        · have c : top40 ≤ (i.natAbs : Int) := by
            have z : ¬ i < 10 ^ 40 := of_decide_eq_false e
            show (10 ^ 40 : Int) ≤ _
            omega
          rw [if_pos c] at k'
          refine ⟨_, rfl, (by decide : 2 ≤ sizeLine), fun T nT => ?_⟩
          have s2 := same_upd (o := .tup [.str "TooGreat", .ref p]) nT
          exact k' _ _ s2 (.tup (SqT.of upd_same) (.cons (.str _) (.cons (dp_same s2 hd) .nil)))
      | of x =>
        obtain ⟨p, rfl, hq⟩ := dp_of hd
        have k' : ∀ H' u, Same H H' → Dp K H' u (match numO (txt Ee x) with
          | some i => Rs.ok i
          | none => .er (.noI (txt Ee x))).d → Q u H' := k
        have tl := txt_len ev x
        refine ⟨_, rfl, p, _, 0, _, rfl, rfl, hq, at0, rfl, _, rfl, if_no rfl ?_⟩
        refine ⟨_, rfl, p, _, 0, _, rfl, rfl, hq, at0, rfl, _, rfl, if_yes rfl ?_⟩
        refine ⟨_, rfl, p, _, 1, _, rfl, rfl, hq, atI_nat (j := 1) rfl, _, rfl, _, rfl, x, b, g, Ee, rfl, ev, wok, _, rfl, txt Ee x, rfl, by omega, (txt_sh ev x).2, fun H1 s1 => ⟨_, rfl, rfl, _, rfl, ?_⟩⟩
        cases ei : numO (txt Ee x) with
        | none =>
          rw [ei] at k'
          refine if_yes rfl ⟨_, rfl, (by decide : 2 ≤ sizeLine), fun T nT => ?_⟩
          have s2 := same_upd (o := .tup [.str "NoInteger", .str (txt Ee x)]) nT
          exact k' _ _ (s1.trans s2) (.tup (SqT.of upd_same) (.cons (.str _) (.cons (.str _) .nil)))
        | some i =>
          rw [ei] at k'
          refine if_no rfl ⟨_, rfl, (by decide : 2 ≤ sizeLine), fun T nT => ?_⟩
          have s2 := same_upd (o := .tup [.str "number", .int i]) nT
          exact k' _ _ (s1.trans s2) (.tup (SqT.of upd_same) (.cons (.str _) (.cons (.int _) .nil)))
      | one s' a1 =>
        obtain ⟨p, x, rfl, hq, hx⟩ := pc_two hd
        have ha : a1.ht + 1 ≤ n := by
          have : 1 + a1.ht ≤ n := hh
          omega
        have ns : s' ≠ "number" ∧ s' ≠ "of" := by rcases nice.1 with z | z <;> (rw [z]; exact ⟨by decide +kernel, by decide +kernel⟩)
        refine ⟨_, rfl, p, _, 0, _, rfl, rfl, hq, at0, rfl, _, rfl, if_no (s_ne ns.1) ?_⟩
        refine ⟨_, rfl, p, _, 0, _, rfl, rfl, hq, at0, rfl, _, rfl, if_no (s_ne ns.2) ?_⟩
        refine ⟨_, rfl, p, _, 1, _, rfl, rfl, hq, atI_nat (j := 1) rfl, _, rfl, _, rfl, kid hx ha nice.2 wok ev fun H1 u s1 hu => ⟨_, rfl, ?_⟩⟩
        have k1 : ∀ H' v, Same H H' → Dp K H' v ((vl Ee a1).then fun i => if s' = "minus" then .ok (-i) else tru (decide (i = 0))).d → Q v H' := k
        cases ei : vl Ee a1 with
        | er e =>
          rw [ei] at hu k1
          obtain ⟨a, y, rfl, hq2⟩ := rs_er hu
          exact ⟨a, _, 0, _, rfl, rfl, hq2, at0, rfl, _, rfl, if_yes (by rw [ek_ne]; rfl) ⟨_, rfl, k1 _ _ s1 hu⟩⟩
        | ok i =>
          rw [ei] at hu k1
          obtain ⟨a, rfl, hq2⟩ := dp_num hu
          replace hq := sqT_same s1 hq
          refine ⟨a, _, 0, _, rfl, rfl, hq2, at0, rfl, _, rfl, if_no rfl ?_⟩
          rcases nice.1 with rfl | rfl
          · refine ⟨_, rfl, p, _, 0, _, rfl, rfl, hq, at0, rfl, _, rfl, if_yes rfl ?_⟩
            refine ⟨_, rfl, a, _, 1, _, rfl, rfl, hq2, atI_nat (j := 1) rfl, _, _, rfl, rfl, (by decide : 2 ≤ sizeLine), fun T nT => ?_⟩
            have s2 := same_upd (o := .tup [.str "number", .int (0 - i)]) nT
            have z : Dp K (L2.upd H1 T (.tup [.str "number", .int (0 - i)])) (.ref T) (Rs.ok (-i)).d := by
              rw [show (-i : Int) = 0 - i by omega]
              exact (.tup (SqT.of upd_same) (.cons (.str _) (.cons (.int _) .nil)))
            exact k1 _ _ (s1.trans s2) z
          · refine ⟨_, rfl, p, _, 0, _, rfl, rfl, hq, at0, rfl, _, rfl, if_no rfl ?_⟩
            refine ⟨_, rfl, p, _, 0, _, rfl, rfl, hq, at0, rfl, _, rfl, if_yes rfl ?_⟩
            refine ⟨_, rfl, a, _, 1, _, rfl, rfl, hq2, atI_nat (j := 1) rfl, rfl, .inr ⟨_, rfl, (by decide : 2 ≤ sizeLine), fun T nT => ?_⟩⟩
            dsimp only at nT ⊢
            rw [i_eq]
            have s2 := same_upd (o := .tup [.str "number", .int (if decide (i = 0) = true then 1 else 0)]) nT
            exact k1 _ _ (s1.trans s2) (.tup (SqT.of upd_same) (.cons (.str _) (.cons (.int _) .nil)))
      | three s' a1 b1 c1 =>
        obtain ⟨p, x, y, z, rfl, hq, hx, hy, hz⟩ := pc_four hd
        have habc : 1 + max a1.ht (max b1.ht c1.ht) ≤ n := hh
        obtain ⟨rfl, na, nb, nc⟩ := nice
        obtain ⟨wa, wb, wc⟩ := wok
        refine ⟨_, rfl, p, _, 0, _, rfl, rfl, hq, at0, rfl, _, rfl, if_no rfl ?_⟩
        refine ⟨_, rfl, p, _, 0, _, rfl, rfl, hq, at0, rfl, _, rfl, if_no rfl ?_⟩
        refine ⟨_, rfl, p, _, 1, _, rfl, rfl, hq, atI_nat (j := 1) rfl, _, rfl, _, rfl, kid hx (by omega) na wa ev fun H1 u s1 hu => ⟨_, rfl, ?_⟩⟩
        have k1 : ∀ H' v, Same H H' → Dp K H' v ((vl Ee a1).then fun i => if i ≠ 0 then vl Ee b1 else vl Ee c1).d → Q v H' := k
        cases ei : vl Ee a1 with
        | er e =>
          rw [ei] at hu k1
          obtain ⟨a, y, rfl, hq2⟩ := rs_er hu
          exact ⟨a, _, 0, _, rfl, rfl, hq2, at0, rfl, _, rfl, if_yes (by rw [ek_ne]; rfl) ⟨_, rfl, k1 _ _ s1 hu⟩⟩
        | ok i =>
          rw [ei] at hu k1
          replace k1 : ∀ H' v, Same H H' → Dp K H' v (if i ≠ 0 then vl Ee b1 else vl Ee c1).d → Q v H' := k1
          obtain ⟨a, rfl, hq2⟩ := dp_num hu
          replace hq := sqT_same s1 hq
          refine ⟨a, _, 0, _, rfl, rfl, hq2, at0, rfl, _, rfl, if_no rfl ?_⟩
          refine ⟨_, rfl, p, _, 0, _, rfl, rfl, hq, at0, rfl, _, rfl, if_no rfl ?_⟩
          refine ⟨_, rfl, p, _, 0, _, rfl, rfl, hq, at0, rfl, _, rfl, if_no rfl ?_⟩
          refine ⟨_, rfl, p, _, 0, _, rfl, rfl, hq, at0, rfl, _, rfl, if_yes rfl ?_⟩
          refine ⟨_, rfl, _, rfl, a, _, 1, _, rfl, rfl, hq2, atI_nat (j := 1) rfl, rfl, .inr ⟨_, rfl, _, _, rfl, rfl, ?_⟩⟩
          rw [i_eq]
          by_cases c : i = 0
          · rw [if_neg (fun z => z c)] at k1
            rw [decide_eq_true c]
            exact ⟨p, _, 3, _, rfl, rfl, hq, atI_nat (j := 3) rfl, _, rfl, _, rfl, kid (dp_same s1 hz) (by omega) nc wc (ev.same s1) fun H2 v s2 hv => k1 _ _ (s1.trans s2) hv⟩
          · rw [if_pos c] at k1
            rw [decide_eq_false c]
            exact ⟨p, _, 2, _, rfl, rfl, hq, atI_nat (j := 2) rfl, _, rfl, _, rfl, kid (dp_same s1 hy) (by omega) nb wb (ev.same s1) fun H2 v s2 hv => k1 _ _ (s1.trans s2) hv⟩
      | two s' a1 b1 =>
        obtain ⟨p, x, y, rfl, hq, hx, hy⟩ := pc_three hd
        have hab : 1 + max a1.ht b1.ht ≤ n := hh
        obtain ⟨op, na, nb⟩ := nice
        obtain ⟨wa, wb⟩ := wok
        refine ⟨_, rfl, p, _, 0, _, rfl, rfl, hq, at0, rfl, _, rfl, if_no (opn op (by decide +kernel)) ?_⟩
        refine ⟨_, rfl, p, _, 0, _, rfl, rfl, hq, at0, rfl, _, rfl, if_no (opn op (by decide +kernel)) ?_⟩
        refine ⟨_, rfl, p, _, 1, _, rfl, rfl, hq, atI_nat (j := 1) rfl, _, rfl, _, rfl, kid hx (by omega) na wa ev fun H1 u s1 hu => ⟨_, rfl, ?_⟩⟩
        have k1 : ∀ H' v, Same H H' → Dp K H' v ((vl Ee a1).then fun i => if s' = "&&" ∧ i = 0 then .ok 0 else if s' = "||" ∧ i ≠ 0 then .ok 1 else
          (vl Ee b1).then fun j => jlR (.two s' a1 b1) s' i j).d → Q v H' := k
        have fi := vl_fin Ee a1
        cases ei : vl Ee a1 with
        | er e =>
          rw [ei] at hu k1
          obtain ⟨a, y, rfl, hq2⟩ := rs_er hu
          exact ⟨a, _, 0, _, rfl, rfl, hq2, at0, rfl, _, rfl, if_yes (by rw [ek_ne]; rfl) ⟨_, rfl, k1 _ _ s1 hu⟩⟩
        | ok i =>
          rw [ei] at hu k1 fi
          obtain ⟨a, rfl, hq2⟩ := dp_num hu
          replace hq := sqT_same s1 hq
          refine ⟨a, _, 0, _, rfl, rfl, hq2, at0, rfl, _, rfl, if_no rfl ?_⟩
          refine ⟨_, rfl, p, _, 0, _, rfl, rfl, hq, at0, rfl, _, rfl, if_no (opn op (by decide +kernel)) ?_⟩
          refine ⟨_, rfl, p, _, 0, _, rfl, rfl, hq, at0, rfl, _, rfl, if_no (opn op (by decide +kernel)) ?_⟩
          refine ⟨_, rfl, p, _, 0, _, rfl, rfl, hq, at0, rfl, _, rfl, if_no (opn op (by decide +kernel)) ?_⟩
          refine next_seq ?_
          refine or_test (b1 := decide (V.str s' = V.str "&&")) (b2 := decide (V.int i = V.int 0)) (b3 := decide (V.str s' = V.str "||")) (b4 := !decide (V.int i = V.int 0))
            (fun Q q => ⟨_, rfl, p, _, 0, _, rfl, rfl, hq, at0, rfl, _, rfl, q⟩)
            (fun Q q => ⟨_, rfl, a, _, 1, _, rfl, rfl, hq2, atI_nat (j := 1) rfl, rfl, _, rfl, q⟩)
            (fun Q q => ⟨_, rfl, p, _, 0, _, rfl, rfl, hq, at0, rfl, _, rfl, q⟩)
            (fun Q q => ⟨_, rfl, a, _, 1, _, rfl, rfl, hq2, atI_nat (j := 1) rfl, rfl, _, rfl, q⟩) ?_
          have eb : (decide (V.str s' = V.str "&&") && decide (V.int i = V.int 0) || decide (V.str s' = V.str "||") && !decide (V.int i = V.int 0)) = decide ((s' = "&&" ∧ i = 0) ∨ (s' = "||" ∧ i ≠ 0)) := by
            rw [i_eq]
            simp [Bool.eq_iff_iff]
          rw [eb]
          have num : ∀ (j : Int), Rs.ok j = (if s' = "&&" ∧ i = 0 then Rs.ok 0 else if s' = "||" ∧ i ≠ 0 then .ok 1 else (vl Ee b1).then fun j => jlR (.two s' a1 b1) s' i j) → ∀ (T : Addr) (H2 : Hp), Same H1 H2 → Dp K H2 (.ref T) (Rs.ok j).d → Q (.ref T) H2 := fun j ej T H2 s2 hv => by
            refine k1 _ _ (s1.trans s2) ?_
            show Dp K H2 _ ((if s' = "&&" ∧ i = 0 then Rs.ok 0 else if s' = "||" ∧ i ≠ 0 then .ok 1 else (vl Ee b1).then fun j => jlR (.two s' a1 b1) s' i j)).d
            rw [← ej]
            exact hv
          refine if_by (fun e => ?_) (fun e => ?_)
          · have e' := of_decide_eq_true e
            refine ⟨_, rfl, a, _, 1, _, rfl, rfl, hq2, atI_nat (j := 1) rfl, rfl, .inr ⟨_, rfl, (by decide : 2 ≤ sizeLine), fun T nT => ?_⟩⟩
            dsimp only at nT ⊢
            rw [i_ne]
            have s2 := same_upd (o := .tup [.str "number", .int (if decide (i ≠ 0) = true then 1 else 0)]) nT
            refine num _ ?_ T _ s2 (.tup (SqT.of upd_same) (.cons (.str _) (.cons (.int _) .nil)))
            rcases e' with ⟨z1, z2⟩ | ⟨z1, z2⟩
            · rw [decide_eq_false (fun z => z z2), if_pos (show s' = "&&" ∧ i = 0 from ⟨z1, z2⟩)]; rfl
            · rw [decide_eq_true z2, if_neg (show ¬ (s' = "&&" ∧ i = 0) from fun z => z2 z.2), if_pos (show s' = "||" ∧ i ≠ 0 from ⟨z1, z2⟩)]; rfl
          · have e' := of_decide_eq_false e
            have k2 : ∀ H' v, Same H1 H' → Dp K H' v ((vl Ee b1).then fun j => jlR (.two s' a1 b1) s' i j).d → Q v H' := fun H' v s2 hv => by
              refine k1 _ _ (s1.trans s2) ?_
              show Dp K H' _ ((if s' = "&&" ∧ i = 0 then Rs.ok 0 else if s' = "||" ∧ i ≠ 0 then .ok 1 else (vl Ee b1).then fun j => jlR (.two s' a1 b1) s' i j)).d
              rw [if_neg (fun z => e' (.inl z)), if_neg (fun z => e' (.inr z))]
              exact hv
            refine ⟨_, rfl, p, _, 2, _, rfl, rfl, hq, atI_nat (j := 2) rfl, _, rfl, _, rfl, kid (dp_same s1 hy) (by omega) nb wb (ev.same s1) fun H2 u2 s2 hu2 => ⟨_, rfl, ?_⟩⟩
            have fj := vl_fin Ee b1
            cases ej : vl Ee b1 with
            | er e =>
              rw [ej] at hu2 k2
              obtain ⟨a', y, rfl, hq3⟩ := rs_er hu2
              exact ⟨a', _, 0, _, rfl, rfl, hq3, at0, rfl, _, rfl, if_yes (by rw [ek_ne]; rfl) ⟨_, rfl, k2 _ _ s2 hu2⟩⟩
            | ok j =>
              rw [ej] at hu2 k2 fj
              obtain ⟨a', rfl, hq3⟩ := dp_num hu2
              refine ⟨a', _, 0, _, rfl, rfl, hq3, at0, rfl, _, rfl, if_no rfl ?_⟩
              exact ⟨_, rfl, _, rfl, a, _, 1, _, rfl, rfl, sqT_same s2 hq2, atI_nat (j := 1) rfl, _, rfl, a', _, 1, _, rfl, rfl, hq3, atI_nat (j := 1) rfl, _, s', a1, b1, i, j, rfl, dp_same (s1.trans s2) hd, op, fin_log fi, fin_log fj, fun H3 v s3 hv => k2 _ _ (s2.trans s3) hv⟩
end
end Qb
end PySem
namespace PySem
namespace Qb
open PySem.W PySem.Calls PyProof.Rows L2
/-! # names turned about, plain answers -/
theorem find_mem {ps : List (Str × Str)} (h : (ps.map (·.1)).Nodup) {p : Str × Str} (m : p ∈ ps) : ps.find? (fun q => decide (q.1 = p.1)) = some p := by
  induction ps with
  | nil => cases m
  | cons q ps ih =>
    rw [List.map_cons, List.nodup_cons] at h
    rcases List.mem_cons.mp m with rfl | m
    · rw [List.find?_cons_of_pos (by simp)]
    · have ne : q.1 ≠ p.1 := fun z => h.1 (by rw [z]; exact List.mem_map_of_mem m)
      rw [List.find?_cons_of_neg (by simpa using ne)]
      exact ih h.2 m
theorem nm_mem {ps : List (Str × Str)} (h : (ps.map (·.1)).Nodup) {p : Str × Str} (m : p ∈ ps) : nmOf ps p.1 = p.2 := by
  unfold nmOf
  rw [find_mem h m]
  rfl
theorem nm_not {ps : List (Str × Str)} {w : Str} (h : ∀ p ∈ ps, p.1 ≠ w) : nmOf ps w = "" := by
  unfold nmOf
  rw [List.find?_eq_none.mpr fun p m => by simpa using h p m]
  rfl
theorem nd_rev {ps : List (Str × Str)} (h : (ps.map (·.1)).Nodup) : (ps.reverse.map (·.1)).Nodup := by
  rw [List.map_reverse]
  exact List.pairwise_reverse.mpr (h.imp Ne.symm)
theorem nm_rev {ps : List (Str × Str)} (h : (ps.map (·.1)).Nodup) (w : Str) : nmOf ps.reverse w = nmOf ps w := by
  by_cases e : ∃ p ∈ ps, p.1 = w
  · obtain ⟨p, m, rfl⟩ := e
    rw [nm_mem h m, nm_mem (nd_rev h) (List.mem_reverse.mpr m)]
  · have n : ∀ p ∈ ps, p.1 ≠ w := fun p m z => e ⟨p, m, z⟩
    rw [nm_not n, nm_not fun p m => n p (List.mem_reverse.mp m)]
theorem val_mem {ps : List (Str × Str)} (h : (ps.map (·.1)).Nodup) {p : Str × Str} (m : p ∈ ps) : valV (bkV ps) (Sum.inr p.1 : Key) = some (.str p.2) := by
  induction ps with
  | nil => cases m
  | cons q ps ih =>
    rw [List.map_cons, List.nodup_cons] at h
    rcases List.mem_cons.mp m with rfl | m
    · exact valV_pos (p := ((Sum.inr p.1 : Key), V.str p.2)) rfl
    · have ne : q.1 ≠ p.1 := fun z => h.1 (by rw [z]; exact List.mem_map_of_mem m)
      have e : valV (bkV (q :: ps)) (Sum.inr p.1 : Key) = valV (bkV ps) (Sum.inr p.1 : Key) := valV_neg (p := ((Sum.inr q.1 : Key), V.str q.2)) fun z => ne (Sum.inr.inj z)
      rw [e]
      exact ih h.2 m
theorem putP_new {qs : List (Str × Str)} {w x : Str} (h : ∀ p ∈ qs, p.1 ≠ w) : putP qs w x = qs ++ [(w, x)] := by
  unfold putP
  rw [if_neg fun e => ?_]
  obtain ⟨p, m, z⟩ := List.any_eq_true.mp e
  exact h p m (of_decide_eq_true z)
theorem nd_before {qs : List (Str × Str)} (h : (qs.map (·.1)).Nodup) {i : Nat} {p : Str × Str} (e : qs[i]? = some p) : ∀ q ∈ qs.take i, q.1 ≠ p.1 := fun q m z => by
  have hi : i < qs.length := (List.getElem?_eq_some_iff.mp e).1
  have s := List.take_append_drop i qs
  have hd : qs.drop i = p :: qs.drop (i + 1) := by
    rw [List.drop_eq_getElem_cons hi]
    congr 1
    exact (List.getElem?_eq_some_iff.mp e).2
  rw [← s, hd, List.map_append, List.nodup_append] at h
  exact h.2.2 q.1 (List.mem_map_of_mem m) p.1 (by simp) z
theorem Bk.book {H : Hp} {b : Addr} {ps : List (Str × Str)} {m : Nat} (k : Bk ps m) (h : H b = some (.dK (bkV ps))) : Book H b (nmOf ps) := ⟨ps, h, fun p mp => (k.ok p mp).2, fun _ => rfl⟩
theorem Bk.back {H : Hp} {b : Addr} {ps : List (Str × Str)} {m : Nat} (k : Bk ps m) (h : H b = some (.dK (bkV ps.reverse))) : Book H b (nmOf ps) := ⟨ps.reverse, h, fun p mp => (k.ok p (List.mem_reverse.mp mp)).2, nm_rev k.nd⟩
/-- an error's sum is none deeper -/
def low (n : Nat) : Rs → Prop
  | .ok _ => True
  | .er (.noI _) => True
  | .er (.great t) => t.ht ≤ n
  | .er (.zero t) => t.ht ≤ n
theorem low_mono {n m : Nat} (h : n ≤ m) : ∀ {r : Rs}, low n r → low m r
  | .ok _, _ => trivial
  | .er (.noI _), _ => trivial
  | .er (.great t), l => Nat.le_trans (show t.ht ≤ n from l) h
  | .er (.zero t), l => Nat.le_trans (show t.ht ≤ n from l) h
theorem low_then {n : Nat} {r : Rs} {f : Int → Rs} (h : low n r) (k : ∀ i, low n (f i)) : low n (r.then f) := by
  cases r with
  | ok i => exact k i
  | er e => exact h
theorem low_chk {n : Nat} {t : Sm} {i : Int} (h : t.ht ≤ n) : low n (chk t i) := by
  unfold chk
  split
  · exact h
  · trivial
theorem low_tru {n : Nat} (b : Bool) : low n (tru b) := trivial
theorem low_jn {n : Nat} {t : Sm} {s : Str} {a b : Int} (h : t.ht ≤ n) : low n (jn t s a b) := by
  unfold jn
  repeat' split
  all_goals first | exact low_chk h | exact h | trivial
theorem vl_low (E : Ev) : ∀ t, low t.ht (vl E t)
  | .num n => low_chk (Nat.le_refl _)
  | .of w => by
    show low _ (match numO (txt E w) with
      | some i => Rs.ok i
      | none => .er (.noI (txt E w)))
    cases numO (txt E w) with
    | none => trivial
    | some i => trivial
  | .one s a => low_then (low_mono (by show a.ht ≤ 1 + a.ht; omega) (vl_low E a)) fun i => by
    split <;> trivial
  | .two s a b => low_then (low_mono (by show a.ht ≤ 1 + max a.ht b.ht; omega) (vl_low E a)) fun i => by
    split
    · trivial
    · split
      · trivial
      · exact low_then (low_mono (by show b.ht ≤ 1 + max a.ht b.ht; omega) (vl_low E b)) fun j => by
          split
          · trivial
          · exact low_jn (Nat.le_refl _)
  | .three s a b c => low_then (low_mono (by show a.ht ≤ 1 + max a.ht (max b.ht c.ht); omega) (vl_low E a)) fun i => by
    split
    · exact low_mono (by show b.ht ≤ 1 + max a.ht (max b.ht c.ht); omega) (vl_low E b)
    · exact low_mono (by show c.ht ≤ 1 + max a.ht (max b.ht c.ht); omega) (vl_low E c)
theorem pl_two {n : Nat} {x y : PyData} (hx : Pl n x) (hy : Pl n y) : Pl (n + 1) (.tuple [x, y]) := .inr ⟨_, .inr rfl, by show 2 ≤ 1000; decide, fun e m => by
  rcases List.mem_cons.mp m with rfl | m
  · exact hx
  · rw [List.mem_singleton.mp m]; exact hy⟩
theorem pl_str (n : Nat) (x : Str) : Pl n (.str x) := by
  cases n with
  | zero => exact .inl ⟨x, rfl⟩
  | succ n => exact .inl (.inl ⟨x, rfl⟩)
theorem pl_int (n : Nat) (x : Int) : Pl n (.int x) := by
  cases n with
  | zero => exact .inr (.inr (.inl ⟨x, rfl⟩))
  | succ n => exact .inl (.inr (.inr (.inl ⟨x, rfl⟩)))
theorem low_pl {n : Nat} : ∀ {r : Rs}, low n r → Pl (n + 2) r.d
  | .ok i, _ => pl_two (pl_str _ _) (pl_int _ _)
  | .er (.noI x), _ => pl_two (pl_str _ _) (pl_str _ _)
  | .er (.great t), h => pl_two (pl_str _ _) (sm_pl (t := t) h)
  | .er (.zero t), h => pl_two (pl_str _ _) (sm_pl (t := t) h)
theorem vl_pl (E : Ev) {t : Sm} (h : t.ht ≤ 14) : Pl 16 (vl E t).d := low_pl (low_mono h (vl_low E t))
theorem eqv_strs {l : List Str} (h : ∀ x ∈ l, PyData.strOk x = true) : PyData.eqv (.list (l.map PyData.str)) (.list (l.map PyData.str)) = true :=
  SeqAt.eqv_refl _ (sh_lst (n := 0) fun d md => by
    obtain ⟨c, mc, rfl⟩ := List.mem_map.mp md
    exact sh_str (h c mc)).1
end Qb
end PySem
namespace PySem
namespace Qb
open PySem.Calls PyProof.Rows L2
/-- what a walk over a set wants of its table -/
def Walkable (w : World) (t : SetTable) : Prop := Ris t.place.toList ∧ (w.params.followText "set-order" = true ∨ t.led = true)
section
variable {P : Program} {w : World} {A : Around} {E : Value → Shared → Prop} {s : Shared}
theorem walk_plain {t : SetTable} (h : Walkable w t) : Walkable w (if t.plain = true then { t with plain := false } else t) := by
  split <;> exact h
theorem walk_lay {t : SetTable} (es : Array (Int × Value)) (k : Int) (v : Value) (h : Walkable w t) : Walkable w (layNew t es k v).2.1 :=
  ⟨layNew_ris t es k v h.1, by rw [layNew_led]; exact h.2⟩
theorem walk_tail {t : SetTable} (ep : Nat) (es : Array (Int × Value)) (d : Bool) (h : Walkable w t) : Walkable w (Froz.tailTx ep es t d).2.2 := by
  unfold Froz.tailTx
  split
  · exact ⟨relayAll_ris t es _, by rw [relayAll_led]; exact h.2⟩
  · exact h
theorem walk_add {D : Froz.SD} (k : Int) (v : Value) (h : Walkable w D.2.2) : Walkable w (Froz.addTx k v D).2.2 :=
  walk_tail _ _ _ (walk_plain (walk_lay D.1 k v h))
/-- the set at a holds the texts l, in some order -/
def TxSet (P : Program) (w : World) (h : Heap) (a : Addr) (l : List Str) : Prop :=
  ∃ D : Froz.SD, h.get? a = some (Froz.sObj "set" D) ∧ Froz.TxOk P w D l ∧ Walkable w D.2.2 ∧ l.Nodup
theorem TxSet.at {h h' : Heap} {a : Addr} {l : List Str} (R : TxSet P w h a l) (k : ∀ o, h.get? a = some o → h'.get? a = some o) : TxSet P w h' a l := by
  obtain ⟨D, e, r⟩ := R
  exact ⟨D, k _ e, r⟩
theorem tx_new {h : Heap} {a : Addr} (e : h.get? a = some ⟨.type "set", none, .set #[] 0 (.fresh 0 0 (!w.params.followText "set-order")), #[]⟩) : TxSet P w h a [] :=
  ⟨(#[], 0, .fresh 0 0 (!w.params.followText "set-order")), e, Froz.TxOk.nil rfl, ⟨List.Pairwise.nil, by
    show _ ∨ (!w.params.followText "set-order") = true
    cases w.params.followText "set-order"
    · exact .inr rfl
    · exact .inl rfl⟩, List.nodup_nil⟩
/-- one text is added -/
def withTx (l : List Str) (k : Str) : List Str := if k ∈ l then l else k :: l
theorem tx_add {a : Addr} {l : List Str} {k : Str} {u : Tok} {Q : Bool → Shared → Prop} (R : TxSet P w s.heap a l) (hb : l.length + 1 < scanBound)
    (fin : ∀ (b : Bool) (h' : Heap), (∀ c, c ≠ a → h'.get? c = s.heap.get? c) → TxSet P w h' a (withTx l k) → Q b { s with heap := h' }) :
    wpAny (model P w) A (setAddHashed a (.str k u) (hashStr w k)) Q E s := by
  obtain ⟨D, e, F, W, nd⟩ := R
  by_cases m : k ∈ l
  · have stay := fin false s.heap (fun _ _ => rfl) (by rw [withTx, if_pos m]; exact ⟨D, e, F, W, nd⟩)
    obtain ⟨es, ep, t⟩ := D
    have fs : t.fits es.size = true := F.fit
    have el : ElemsOf (strKind P w) es.toList := F.el
    have few : es.size < scanBound := by
      have z : es.size = l.length := F.sz
      omega
    unfold setAddHashed setAddHashedIn
    refine wpAny_holding (wpAny_bind (wpAny_setState_of e (show (Froz.sObj "set" (es, ep, t)).data = .set es ep t from rfl) fs ?_))
    dsimp only
    rw [byScan_of rfl few el]
    simp only [↓reduceIte]
    unfold setAddByScan
    refine wpAny_bind (wpAny_bind (wpAny_rule (wpAny_bind (wpAny_setScan_of (knd := strKind P w) (Froz.is_str k u) e rfl fs el ?_))))
    obtain ⟨x, mx, kx⟩ := (F.mem k).mp m
    cases f : List.findIdx? (fun e => (strKind P w).is k e.2) es.toList with
    | none =>
      have z := List.findIdx?_eq_none_iff.mp f x mx
      rw [kx] at z
      cases z
    | some j =>
      dsimp only
      exact wpAny_pure (wpAny_pure stay)
  · refine Froz.add_x e F m hb (fin true _ (fun c ne => Heap.get?_update_other _ _ ne.symm) ?_)
    rw [withTx, if_neg m]
    exact ⟨_, Froz.get_upd _ e rfl, Froz.add_ok u F, walk_add _ _ W, List.nodup_cons.mpr ⟨m, nd⟩⟩
end
end Qb
end PySem
namespace PySem
namespace Qb
open PySem.W PySem.Calls PyProof.Rows L2
/-- texts, one by one -/
def withAll : List Str → List Str → List Str
  | l, [] => l
  | l, k :: r => withAll (withTx l k) r
theorem withTx_len (l : List Str) (k : Str) : (withTx l k).length ≤ l.length + 1 := by
  unfold withTx
  split
  · exact Nat.le_succ _
  · exact Nat.le_refl _
theorem withTx_mem (l : List Str) (k x : Str) : x ∈ withTx l k ↔ x ∈ l ∨ x = k := by
  unfold withTx
  split
  · next m => exact ⟨.inl, fun h => h.elim id fun e => e ▸ m⟩
  · rw [List.mem_cons]
    exact Or.comm
theorem withAll_mem : ∀ (l r : List Str) (x : Str), x ∈ withAll l r ↔ x ∈ l ∨ x ∈ r
  | l, [], x => by simp [withAll]
  | l, k :: r, x => by
    rw [withAll, withAll_mem, withTx_mem, List.mem_cons, or_assoc]
theorem withAll_len : ∀ (l r : List Str), (withAll l r).length ≤ l.length + r.length
  | l, [] => Nat.le_refl _
  | l, k :: r => by
    have h1 := withAll_len (withTx l k) r
    have h2 := withTx_len l k
    rw [withAll, List.length_cons]
    omega
section
variable {P : Program} {w : World} {A : Around} {E : Value → Shared → Prop} {s : Shared}
theorem tx_loop {I : Addr} {fp wr : List Addr} {G : Array GenState → Array GenState → Prop} {n : Nat} {Pv : Nat → Value → Prop} {St : Nat → Shared → Prop} {R : Result → Shared → Prop}
    (W : WalksS P w A.in1 I fp wr G n Pv St) (S : Addr) (off : S ∉ fp) (ks : List Str) (hn : n = ks.length) (val : ∀ i v, Pv i v → ∃ t, ∃ h : i < ks.length, v = .str ks[i] t) :
    ∀ (r : List Str) (i : Nat) (l : List Str) (s : Shared), ks.drop i = r → i ≤ n → St i s → l.length + r.length + 1 < scanBound → TxSet P w s.heap S l →
      (∀ s', Moved (S :: wr) G s s' → TxSet P w s'.heap S (withAll l r) → R (.ok (.ret .none)) s') →
      codeAny (model P w) A (.builtin "set.update.loop" ⟨[.ref S, .ref I], []⟩) R s := by
  have offw : S ∉ wr := fun h => off (W.sub _ h)
  have more : ∀ b ∈ wr, b ∈ S :: wr := fun b hb => .tail _ hb
  intro r
  induction r with
  | nil =>
    intro i l s er hi st room hS fin
    have end_ : i = n := by
      have := congrArg List.length er
      rw [List.length_drop] at this
      simp at this
      omega
    subst end_
    refine codeAny_builtin F.entry_set_update_loop ?_
    rw [Around.under_plainId F.plain_set_update_loop _]
    refine wpAny_bind (W.done s _ _ st fun s1 mv => wpAny_pure (fin s1 (mv.mono more) (hS.at fun o e => mv.heap S o offw e)))
  | cons k r ih =>
    intro i l s er hi st room hS fin
    have lt : i < ks.length := by
      have := congrArg List.length er
      rw [List.length_drop, List.length_cons] at this
      omega
    rw [List.drop_eq_getElem_cons lt] at er
    injection er with ek er
    refine codeAny_builtin F.entry_set_update_loop ?_
    rw [Around.under_plainId F.plain_set_update_loop _]
    refine wpAny_bind (W.item i s _ _ (hn ▸ lt) st fun v s1 pv st1 mv => ?_)
    obtain ⟨t, _, rfl⟩ := val i v pv
    rw [ek]
    have hS1 : TxSet P w s1.heap S l := hS.at fun o e => mv.heap S o offw e
    show wpAny _ A.in1 (holding [Value.str k t] (setAdd S (.str k t)) >>= _) _ _ s1
    refine wpAny_bind (wpAny_holding ?_)
    unfold setAdd
    refine wpAny_holding (wpAny_bind ((strKind P w).pyHash (k := k) (Froz.is_str k t) ?_))
    rw [List.length_cons] at room
    refine tx_add (s := { s1 with toks := s1.toks + 1 }) hS1 (by omega) fun b h2 same hS2 => ?_
    refine wpAny_pure ⟨plainId_quiet F.plain_set_update_loop _, ih (i + 1) _ _ er (hn ▸ lt) (W.frame _ s1 _ _ st1 (Nat.le_succ _) fun b mb o e => ?_) (by have := withTx_len l k; omega) hS2 fun s3 mv3 hS3 => ?_⟩
    · exact (same b fun z => off (z ▸ mb)).trans e
    · refine fin s3 (Moved.trans W.gtrans ((mv.mono more).then_heap (Nat.le_succ _) fun b o nb e => ?_) mv3) hS3
      exact (same b fun z => nb (z ▸ .head _)).trans e
end
end Qb
end PySem
namespace PySem
namespace Qb
open PySem.W PySem.Calls PyProof.Rows L2
/-- values that are texts -/
def TxsAre (us : List Value) (ks : List Str) : Prop := us.length = ks.length ∧ ∀ (i : Nat) (h : i < ks.length) (v : Value), us[i]? = some v → ∃ t, v = .str ks[i] t
theorem TxsAre.at {us : List Value} {ks : List Str} (h : TxsAre us ks) {i : Nat} (hi : i < ks.length) {v : Value} (e : us[i]? = some v) : ∃ t, v = .str ks[i] t := h.2 i hi v e
section
variable {P : Program} {w : World} {A : Around} {E : Value → Shared → Prop} {s : Shared}
/-- a new set's object -/
abbrev newSet (w : World) : Obj := ⟨.type "set", none, .set #[] 0 (.fresh 0 0 (!w.params.followText "set-order")), #[]⟩
/-- a new set takes the numbers of a list -/
theorem init_txs {S l : Addr} {us : Array Value} (ks : List Str) {Q : Fin → Shared → Prop} (hh : A.handled = none) (hS : s.heap.get? S = some (newSet w)) (hl : s.heap.IsList l us) (hn : TxsAre us.toList ks) (hb : ks.length + 1 < scanBound)
    (fin : ∀ (h1 : Heap) (tk : Nat), TxSet P w h1 S (withAll [] ks) → (∀ b o, b ≠ S → s.heap.get? b = some o → h1.get? b = some o) → Q (.done (.ret .none)) { s with heap := h1, toks := tk }) :
    wpAny (model P w) A (Builtin.«set.__init__» ⟨[.ref S, .ref l], []⟩) Q E s := by
  have hT : Shared.TypeIs s (.ref S) "set" := ⟨_, hS, rfl⟩
  obtain ⟨ob, e1, e2, k, e3⟩ := id hl
  obtain ⟨cl, dd, da, sl⟩ := ob
  dsimp only at e2 e3
  subst e2 e3
  have hs1 := F.sub_list_set
  have hs2 := F.sub_list_frozenset
  have nd : (Value.type "list" == Value.type "dict") = false := by decide
  unfold Builtin.«set.__init__» noKeywords Builtin.Frozenset.updateFrom
  generalize hPI : pyIter = PI
  wp_walk
  subst hPI
  have lt : ∀ {b : Addr} {o : Obj}, s.heap.get? b = some o → b < s.heap.objs.size := fun h => Heap.lt_size h
  have many : us.size = ks.length := by rw [← Array.length_toList]; exact hn.1
  refine wpAny_pyIter_list hl (wpAny_bind (wpAny_runValue ?_))
  obtain ⟨h0, eh⟩ : ∃ h0 : Heap, h0 = s.heap.push { cls := .type "list_iterator", data := .fields #[.ref l, .int 0 0] } := ⟨_, rfl⟩
  rw [← eh]
  have up : ∀ b o, s.heap.get? b = some o → h0.get? b = some o := fun b o h => by rw [eh]; exact Heap.get?_push_of_some _ h
  have nI : S ∉ [s.heap.objs.size, l] := fun m => by
    rcases List.mem_cons.mp m with z | m
    · exact Nat.lt_irrefl _ (z ▸ lt hS)
    · rw [List.mem_singleton.mp m, e1] at hS
      have z := congrArg Obj.cls (Option.some.inj hS)
      injection z with z
      exact absurd z (by decide)
  have it : h0.IsListIter s.heap.objs.size l 0 := by rw [eh]; exact ⟨_, Heap.get?_push_size _ rfl, rfl, rfl⟩
  refine tx_loop ((Walks.list (A := A.in1) (by simp [hh]) s.heap.objs.size l (Nat.ne_of_lt (lt e1)) us).toS) S nI ks many (fun i v hv => ?_) ks 0 [] _ rfl (Nat.zero_le _) ⟨it, hl.imp fun o z => ⟨up _ _ z.1, z.2⟩⟩ (by simpa using hb) (tx_new (up _ _ hS)) fun s1 mv hR => ?_
  · obtain ⟨h, e⟩ := Array.getElem?_eq_some_iff.mp hv
    have hi : i < ks.length := many ▸ h
    obtain ⟨t, z⟩ := hn.at hi (v := v) (by rw [Array.getElem?_toList]; exact hv)
    exact ⟨t, hi, z⟩
  · obtain ⟨h1, g1, d1, tk1, o1⟩ := s1
    obtain rfl : g1 = s.gens := mv.gens
    obtain rfl : d1 = s.drawn := mv.drawn
    obtain rfl : o1 = s.os := mv.os
    refine wpAny_pure (wpAny_pure (fin h1 tk1 hR fun b o nb hb => mv.heap b o (fun m => ?_) (up b o hb)))
    rcases List.mem_cons.mp m with z | m
    · exact nb z
    · exact Nat.lt_irrefl _ (List.mem_singleton.mp m ▸ lt hb)
theorem call_set_txs {l : Addr} {us : Array Value} (ks : List Str) {Q : Value → Shared → Prop} (hh : A.handled = none) (hl : s.heap.IsList l us) (hn : TxsAre us.toList ks) (hb : ks.length + 1 < scanBound)
    (fin : ∀ (h1 : Heap) (tk : Nat), TxSet P w h1 s.heap.objs.size (withAll [] ks) → (∀ b o, s.heap.get? b = some o → h1.get? b = some o) → Q (.ref s.heap.objs.size) { s with heap := h1, toks := tk }) :
    wpAny (model P w) A (call (.type "set") [.ref l]) Q E s := by
  obtain ⟨c, tl, hmro⟩ := F.called_set.mro
  have h1 := F.called_set.made
  have h2 := F.called_set.sub
  have h3 := F.called_set.notType
  have h4 := F.called_set.canCreate
  have h5 := F.typeCall_set_1 (.ref l)
  refine wpAny_call (codeAny_of_tree (wpAny_pure ⟨Code.quiet_builtin _ (by decide +kernel), codeAny_builtin F.entry_type_call ?_⟩))
  rw [Around.under_plain (weight_type_call_type "set" [.ref l] []) rfl]
  repeat (any_goals (first | assumption | wp_step))
  refine codeAny_mono (code_set_led1 (.ref l) (E := E) (Q₁ := fun u s1 => u = .ref s.heap.objs.size ∧ s1 = { s with heap := s.heap.push (newSet w) }) ⟨rfl, rfl⟩) fun r s1 hr => ?_
  match r, hr with
  | .error e, hr => exact hr
  | .ok .next, hr => exact hr.elim
  | .ok .brk, hr => exact hr.elim
  | .ok .cont, hr => exact hr.elim
  | .ok (.ret u), hr =>
    obtain ⟨rfl, rfl⟩ := hr
    have hS : (s.heap.push (newSet w)).get? s.heap.objs.size = some (newSet w) := Heap.get?_push_size _ rfl
    have hT : Shared.TypeIs { s with heap := s.heap.push (newSet w) } (.ref s.heap.objs.size) "set" := ⟨_, hS, rfl⟩
    have h6 := F.called_set.init.lookup
    have h7 := F.called_set.init.bind (.ref s.heap.objs.size)
    repeat (any_goals (first | assumption | wp_step))
    refine codeAny_call_builtin F.called_set.init.plain F.entry_set_init (check_set_init_1 hT (init_txs ks (by simp [hh]) hS (hl.push _) hn hb fun h1 tk hR kp => ?_))
    exact wpAny_pure (wpAny_pure (fin h1 tk hR fun b o hb => kp b o (Nat.ne_of_lt (Heap.lt_size hb)) (Heap.get?_push_of_some _ hb)))
end
end Qb
end PySem
namespace PySem
namespace Qb
open PySem.W PySem.Calls PyProof.Rows L2
def TxO (P : Program) (w : World) (a : Addr) (l : List Str) : HO := .ext fun h => TxSet P w h a l
theorem txO_new {w : World} {P : Program} {H : Hp} {h : Heap} {a : Addr} {l : List Str} (R : TxSet P w h a l) : ObjOk P w H h a (TxO P w a l) :=
  ⟨R, R.elim fun _ z => ⟨_, z.1⟩, fun _ _ p k => TxSet.at p k⟩
theorem txO_get {X : Cx} {pins : List (Addr × Obj)} {σ : L2.St} {H : Hp} {s : Shared} {a : Addr} {l : List Str} (I : Inv X pins σ H s) (e : H a = some (TxO X.prog X.w a l)) : TxSet X.prog X.w s.heap a l :=
  (I.hok a _ e).1
theorem txs_of : ∀ {us : List Value} {ks : List Str}, StrsAre us ks → TxsAre us ks
  | _, _, .nil => ⟨rfl, fun i h => absurd h (Nat.not_lt_zero i)⟩
  | _, _, .cons k t r => by
    obtain ⟨h1, h2⟩ := txs_of r
    refine ⟨congrArg (· + 1) h1, fun i h v e => ?_⟩
    match i with
    | 0 => exact ⟨t, (Option.some.inj e).symm⟩
    | i + 1 => exact h2 i (Nat.lt_of_succ_lt_succ h) v e
/-- set(xs) of a list of texts -/
def rSetTx (K : PySem.W.Frag) (P : Program) (w : World) : List V → Hp → VK → Prop := fun xs H Q => ∃ (l : Addr) (ks : List Str), xs = [V.ref l] ∧ SqL K H l (ks.map V.str) ∧ ks.length ≤ 1000 ∧
  ∀ a : Addr, H a = none → Q (.ref a) (L2.upd H a (TxO P w a (withAll [] ks)))
theorem cr_setTx {X : Cx} (hc : X.calm = true) : CallR X (.type "set") (rSetTx X.K X.prog X.w) := by
  intro pins s σ H xs us Q I r h
  obtain ⟨l, ks, rfl, hq, hl, q⟩ := h
  rw [Vals.ref1 r]
  obtain ⟨its, rv, pl, hz⟩ := I.list hq
  refine call_set_txs ks (I.ok.hd hc) pl.isList (by simpa using txs_of rv.strs) (by unfold scanBound; omega) fun h1 tk hR hk => ?_
  exact ⟨.ref _, L2.upd H s.heap.objs.size _, I.laid (t' := tk) hk (Nat.le_refl _) (txO_new hR), rfl, q _ (I.hok.fresh (Nat.le_refl _))⟩
theorem perm_of : ∀ {l m : List Str}, l.Nodup → (∀ x ∈ l, x ∈ m) → m.length ≤ l.length → m.Perm l
  | [], m, _, _, h => by
    rw [List.eq_nil_of_length_eq_zero (Nat.le_zero.mp h)]
  | x :: l, m, nd, sub, h => by
    obtain ⟨nx, nd⟩ := List.nodup_cons.mp nd
    have mx := sub x (.head _)
    refine (List.perm_cons_erase mx).trans ((perm_of nd (fun y my => ?_) ?_).cons x)
    · exact (List.mem_erase_of_ne fun e => nx (by rw [← e]; exact my)).mpr (sub y (.tail _ my))
    · rw [List.length_erase_of_mem mx]
      rw [List.length_cons] at h
      omega
theorem els_txs {P : Program} {w : World} : ∀ {es : List (Int × Value)}, ElemsOf (strKind P w) es → ∀ {us : List Value}, (∀ u ∈ us, u ∈ es.map (·.2)) → ∃ xs : List Str, StrsAre us xs
  | es, el, [], _ => ⟨[], .nil⟩
  | es, el, u :: us, h => by
    obtain ⟨xs, hx⟩ := els_txs el (us := us) fun v mv => h v (.tail _ mv)
    obtain ⟨e, me, rfl⟩ := List.mem_map.mp (h u (.head _))
    obtain ⟨⟨k, k1, _⟩, _⟩ := el e me
    obtain ⟨t, z⟩ := Value.isStrOf_shape (x := k) (v := e.2) k1
    rw [z]
    exact ⟨k :: xs, .cons _ _ hx⟩
theorem strs_mem {x : Str} : ∀ {us : List Value} {xs : List Str}, StrsAre us xs → (∃ t, Value.str x t ∈ us) → x ∈ xs
  | _, _, .nil, ⟨_, m⟩ => nomatch m
  | _, _, .cons y u r, ⟨t, m⟩ => by
    rcases List.mem_cons.mp m with e | m
    · injection e with e _
      rw [e]
      exact .head _
    · exact .tail _ (strs_mem r ⟨t, m⟩)
/-- sorted(a set of texts) -/
def rSortTx (P : Program) (w : World) : List V → Hp → VK → Prop := fun vs H Q => ∃ (a : Addr) (l : List Str), vs = [V.ref a] ∧ H a = some (TxO P w a l) ∧ l.length < 64 ∧
  ∀ (ys : List Str) (p : Addr), ys.Perm l → sortedS ys = true → H p = none → Q (.ref p) (L2.upd H p (.lst (ys.map V.str)))
theorem cr_sortTx {X : Cx} (hc : X.calm = true) : CallR X (.builtin "sorted") (rSortTx X.prog X.w) := by
  intro pins s σ H vs us Q I r h
  obtain ⟨a, l, rfl, ha, few, q⟩ := h
  obtain ⟨D, e, F, W, nd⟩ := txO_get I ha
  rw [Vals.ref1 r]
  have sz : D.1.size = l.length := F.sz
  have sb : D.1.size < scanBound := by unfold scanBound; omega
  refine Calls.call_function_entry kind_sorted plain_sorted entry_sorted (args_sorted1 _) ?_
  unfold Builtin.«sorted»
  refine wpAny_bind (m := checkCount "sorted" 1 1 _) (wpAny_pure (wpAny_bind (collect_set (A := X.A.in1) (I.ok.hd hc) ⟨_, e, rfl, rfl⟩ F.fit sb W.1 W.2 fun s1 out k1 big g1 o1 pm => ?_)))
  obtain ⟨xs, hS⟩ := els_txs F.el (us := out) fun u m => pm.mem_iff.mp m
  have lo : out.length = l.length := by rw [pm.length_eq, List.length_map, Array.length_toList, sz]
  have px : xs.Perm l := perm_of nd (fun x m => by
    obtain ⟨y, my, z⟩ := (F.mem x).mp m
    obtain ⟨t, z⟩ := Value.isStrOf_shape (x := x) (v := y.2) z
    exact strs_mem hS ⟨t, pm.mem_iff.mpr (z ▸ List.mem_map_of_mem my)⟩) (by rw [← hS.len_eq, lo]; exact Nat.le_refl _)
  refine wpAny_bind (wpAny_newList ?_ (by rw [lo, sizeLine_eq]; omega))
  have new : (s1.heap.push (seqObj "list" out.toArray 0)).get? s1.heap.objs.size = some (seqObj "list" out.toArray 0) := Heap.get?_push_size _ rfl
  refine wpAny_bind (wpAny_holding (wpAny_call_entry slot_list_sort ⟨_, new, rfl⟩ entry_list_sort
    (list_sort_treeK strKind_oneLt new hS.keysOf (fun v₁ v₂ rest e => keyKind_strs (by rw [← e]; exact hS)) (by rw [lo]; exact few) fun st hp hs => ⟨_, rfl, ?_⟩) (args_list_sort _)))
  obtain ⟨ys, y1, y2, y3⟩ := sorted_out_str hS hp hs
  obtain ⟨ep, at1⟩ := sortedHeap_at (vs := out) (out := (arrOf st).map (·.2)) new
  have py := y2.trans px
  have fits : (ys.map V.str).length ≤ sizeLine := by rw [List.length_map, py.length_eq, sizeLine_eq]; omega
  obtain ⟨h1, gg, dd, tt, oo⟩ := s1
  obtain rfl : gg = s.gens := g1
  obtain rfl : oo = s.os := o1
  have keep : ∀ b u, s.heap.get? b = some u → (sortedHeap (h1.push (seqObj "list" out.toArray 0)) h1.objs.size out ((arrOf st).map (·.2))).get? b = some u := fun b u z => by
    have old := k1 b u z
    have lt := Heap.lt_size old
    rw [sortedHeap_old (Nat.ne_of_lt lt) (by rw [size_push']; exact Nat.lt_succ_of_lt lt)]
    exact Heap.get?_push_of_some _ old
  have fr : H h1.objs.size = none := I.hok.fresh big
  have J : Inv X pins σ (L2.upd H h1.objs.size (.lst (ys.map V.str))) { s with heap := sortedHeap (h1.push (seqObj "list" out.toArray 0)) h1.objs.size out ((arrOf st).map (·.2)), gens := s.gens, drawn := dd, toks := tt } :=
    I.call (ch := []) (Un.laid keep big fr) (I.hok.laid keep big ⟨fits, ((arrOf st).map (·.2)).toList, ep, vals_of_strs y1, by rw [Array.toArray_toList]; exact at1⟩) I.bare (fun _ z => nomatch z)
  exact wpAny_pure ⟨_, rfl, .ref _, _, J, rfl, q ys _ py y3 fr⟩
end Qb
end PySem
namespace PySem
namespace Qb
open PySem.W PySem.Calls PyProof.Rows L2
/-! # names_in -/
/-- the top does not write these names -/
structure BltS (mg : Str → Option Value) : Prop where
  sorted : mg "sorted" = none
  set : mg "set" = none
def spNi (K : Frag) (CT : Addr) : Sp := fun vs H Q E => ∃ (v : V) (t : Sm), vs = [v] ∧ Dp K H v t.d ∧ t.ht ≤ 14 ∧ t.fine ∧ t.nms.length < 64 ∧ (t.ok = true → ∀ H' D ys, Same H H' → H D = none → ys.Perm (withAll [] t.nms) → sortedS ys = true → H' D = some (.lst (ys.map V.str)) → Q (.ref D) H') ∧ (t.ok = false → ∀ H' u, Same H H' → Dp K H' u t.d → RaisesV E CT u H')
theorem same_none {H H' : Hp} {D : Addr} (s : Same H H') (n : H' D = none) : H D = none := by
  cases e : H D with
  | none => rfl
  | some o => rw [s _ _ e] at n; cases n
section
variable {P : Program} {w : World} {K : Frag} {mg : Str → Option Value} {base : Heap}
abbrev sNi : Stmt := top 27
abbrev nNi : List Str := ["tree"]
theorem scNi : FnScope nNi ["tree"] (defScope sNi) := ⟨rfl, rfl, rfl, by decide +kernel, rfl, by decide +kernel, by decide +kernel⟩
theorem has_Ni {CT : Addr} {f : Addr} {fd : FuncData}  (F : Fun K "names_in" "names_in" sNi f fd) (g : mg "names_in" = some (.ref f)) (B2 : BltS mg) (hCk : HasX P w K mg base 19 "check_sum" ["tree"] (spCk K CT)) (hAl : Has P w K mg base 20 "all_names" ["tree"] (spAl K 19)) :
    HasX P w K mg base 21 "names_in" ["tree"] (spNi K CT) := by
  obtain ⟨fCk, dCk, gCk, kCk, bCk, GCk⟩ := hCk
  obtain ⟨fAl, dAl, gAl, kAl, bAl, GAl⟩ := hAl
  refine hasX_of F g (F.binds (ps := ["tree"]) fun _ _ _ _ _ _ us hl => match us, hl with | [_], _ => rfl) (F.okX scNi (fun vs H Q E h => ?_) (fun cdv A outer s H vs Q E hr h => ?_))
  · obtain ⟨v, t, rfl, _⟩ := h
    rfl
  · refine ⟨_, (pss_cons (ps_expr (pe_callS GCk (hr.mono (by decide)) rfl gCk kCk bCk (fun σ => passAt (takes_of rfl rfl rfl rfl) σ) (by exact (pa_cons (pv 0) pa_nil))))
        (pss_one (ps_ret (pe_callB (cr_sortTx rfl) (by rfl) B2.sorted (by decide +kernel) (pa_cons (pe_callTy (cr_setTx rfl) (by rfl) B2.set (by decide +kernel) (pa_cons (pe_call GAl hr rfl gAl kAl bAl .nil pass0 (pa_cons (pv 0) pa_nil)) pa_nil)) pa_nil))))), ?_⟩
    obtain ⟨v, t, rfl, hd, hh, hf, few, k, kE⟩ := h
    refine ⟨_, rfl, v, t, rfl, hd, hh, hf, fun e H1 s1 => ?_, fun e H1 u s1 hu => kE e H1 u s1 hu⟩
    refine ⟨_, rfl, v, t, rfl, dp_same s1 hd, Nat.le_trans hh (by decide), ok_nice e, Nat.le_trans (Nat.le_of_lt few) (by decide), fun H2 C s2 nC hC => ?_⟩
    refine ⟨C, t.nms, rfl, SqL.of hC, Nat.le_trans (Nat.le_of_lt few) (by decide), fun a na => ?_⟩
    refine ⟨a, _, rfl, upd_same, Nat.lt_of_le_of_lt (withAll_len [] t.nms) (by simpa using few), fun ys p py sy np => ?_⟩
    have s3 : Same H (L2.upd (L2.upd H2 a (TxO P w a (withAll [] t.nms))) p (.lst (ys.map V.str))) := ((s1.trans s2).trans (same_upd na)).trans (same_upd np)
    exact k e _ p ys s3 (same_none ((s1.trans s2).trans (same_upd na)) np) py sy upd_same
end
end Qb
end PySem
namespace PySem
namespace Qb
open PySem.W PySem.Calls PyProof.Rows L2
/-! # trees that may be no sums -/
inductive Tm where
  | num (i : Int)
  | of (w : Str)
  | odd (b : Bool)
  | one (s : Str) (a : Tm)
  | two (s : Str) (a b : Tm)
  | three (s : Str) (a b c : Tm)
def Tm.d : Tm → PyData
  | .num i => .tuple [.str "number", .int i]
  | .of w => .tuple [.str "of", .str w]
  | .odd b => if b = true then .tuple [.str "numbers", .int 1] else .tuple [.str "not"]
  | .one s a => .tuple [.str s, a.d]
  | .two s a b => .tuple [.str s, a.d, b.d]
  | .three s a b c => .tuple [.str s, a.d, b.d, c.d]
def Tm.ht : Tm → Nat
  | .num _ => 0
  | .of _ => 0
  | .odd _ => 0
  | .one _ a => 1 + a.ht
  | .two _ a b => 1 + max a.ht b.ht
  | .three _ a b c => 1 + max a.ht (max b.ht c.ht)
def Tm.ok : Tm → Bool
  | .num n => decide (0 ≤ n)
  | .of w => isNameB (cs w) || (isPlB (cs w) && !inV (.str w) (alW.map V.str))
  | .odd _ => false
  | .one s a => (s == "minus" || s == "no") && a.ok
  | .two s a b => isOp s && (a.ok && b.ok)
  | .three s a b c => (s == "choose") && (a.ok && (b.ok && c.ok))
/-- kinds that are none of the others' -/
def Tm.fine : Tm → Prop
  | .num _ => True
  | .of w => w.length ≤ big
  | .odd _ => True
  | .one s a => s ≠ "number" ∧ s ≠ "of" ∧ a.fine
  | .two s a b => a.fine ∧ b.fine
  | .three s a b c => a.fine ∧ b.fine ∧ c.fine
def Sm.tm : Sm → Tm
  | .num i => .num i
  | .of w => .of w
  | .one s a => .one s a.tm
  | .two s a b => .two s a.tm b.tm
  | .three s a b c => .three s a.tm b.tm c.tm
theorem tm_d : ∀ t : Sm, t.tm.d = t.d
  | .num i => rfl
  | .of w => rfl
  | .one s a => by show PyData.tuple [.str s, a.tm.d] = .tuple [.str s, a.d]; rw [tm_d a]
  | .two s a b => by show PyData.tuple [.str s, a.tm.d, b.tm.d] = .tuple [.str s, a.d, b.d]; rw [tm_d a, tm_d b]
  | .three s a b c => by show PyData.tuple [.str s, a.tm.d, b.tm.d, c.tm.d] = .tuple [.str s, a.d, b.d, c.d]; rw [tm_d a, tm_d b, tm_d c]
theorem tm_ht : ∀ t : Sm, t.tm.ht = t.ht
  | .num i => rfl
  | .of w => rfl
  | .one s a => by show 1 + a.tm.ht = 1 + a.ht; rw [tm_ht a]
  | .two s a b => by show 1 + max a.tm.ht b.tm.ht = 1 + max a.ht b.ht; rw [tm_ht a, tm_ht b]
  | .three s a b c => by show 1 + max a.tm.ht (max b.tm.ht c.tm.ht) = 1 + max a.ht (max b.ht c.ht); rw [tm_ht a, tm_ht b, tm_ht c]
theorem tm_ok : ∀ t : Sm, t.tm.ok = t.ok
  | .num i => rfl
  | .of w => rfl
  | .one s a => by show ((s == "minus" || s == "no") && a.tm.ok) = ((s == "minus" || s == "no") && a.ok); rw [tm_ok a]
  | .two s a b => by show (isOp s && (a.tm.ok && b.tm.ok)) = (isOp s && (a.ok && b.ok)); rw [tm_ok a, tm_ok b]
  | .three s a b c => by show ((s == "choose") && (a.tm.ok && (b.tm.ok && c.tm.ok))) = ((s == "choose") && (a.ok && (b.ok && c.ok))); rw [tm_ok a, tm_ok b, tm_ok c]
theorem tm_fine : ∀ {t : Sm}, t.fine → t.tm.fine
  | .num i, _ => trivial
  | .of w, h => h
  | .one s a, h => ⟨h.1, h.2.1, tm_fine h.2.2⟩
  | .two s a b, h => ⟨tm_fine h.1, tm_fine h.2⟩
  | .three s a b c, h => ⟨tm_fine h.1, tm_fine h.2.1, tm_fine h.2.2⟩
theorem tm_pl : ∀ {t : Tm} {n : Nat}, t.ht ≤ n → Pl (n + 1) t.d := by
  have st : ∀ (n : Nat) (x : Str), Pl n (.str x) := fun n x => by
    cases n with
    | zero => exact .inl ⟨x, rfl⟩
    | succ n => exact .inl (.inl ⟨x, rfl⟩)
  have it : ∀ (n : Nat) (x : Int), Pl n (.int x) := fun n x => by
    cases n with
    | zero => exact .inr (.inr (.inl ⟨x, rfl⟩))
    | succ n => exact .inl (.inr (.inr (.inl ⟨x, rfl⟩)))
  intro t
  induction t with
  | num i => exact fun _ => .inr ⟨_, .inr rfl, by show 2 ≤ 1000; decide, fun e m => by
      rcases List.mem_cons.mp m with rfl | m
      · exact st _ _
      · rw [List.mem_singleton.mp m]; exact it _ _⟩
  | of w => exact fun _ => .inr ⟨_, .inr rfl, by show 2 ≤ 1000; decide, fun e m => by
      rcases List.mem_cons.mp m with rfl | m
      · exact st _ _
      · rw [List.mem_singleton.mp m]; exact st _ _⟩
  | odd b =>
    intro n _
    cases b with
    | true => exact .inr ⟨_, .inr rfl, by show 2 ≤ 1000; decide, fun e m => by
        rcases List.mem_cons.mp m with rfl | m
        · exact st _ _
        · rw [List.mem_singleton.mp m]; exact it _ _⟩
    | false => exact .inr ⟨_, .inr rfl, by show 1 ≤ 1000; decide, fun e m => by
        rw [List.mem_singleton.mp m]; exact st _ _⟩
  | one s a ih =>
    intro n h
    have hh : (Tm.one s a).ht = 1 + a.ht := rfl
    obtain ⟨m, rfl⟩ : ∃ m, n = m + 1 := ⟨n - 1, by omega⟩
    exact .inr ⟨_, .inr rfl, by show 2 ≤ 1000; decide, fun e mm => by
      rcases List.mem_cons.mp mm with rfl | mm
      · exact st _ _
      · rw [List.mem_singleton.mp mm]; exact ih (by omega)⟩
  | two s a b ia ib =>
    intro n h
    have hh : (Tm.two s a b).ht = 1 + max a.ht b.ht := rfl
    obtain ⟨m, rfl⟩ : ∃ m, n = m + 1 := ⟨n - 1, by omega⟩
    exact .inr ⟨_, .inr rfl, by show 3 ≤ 1000; decide, fun e mm => by
      rcases List.mem_cons.mp mm with rfl | mm
      · exact st _ _
      rcases List.mem_cons.mp mm with rfl | mm
      · exact ia (by omega)
      · rw [List.mem_singleton.mp mm]; exact ib (by omega)⟩
  | three s a b c ia ib ic =>
    intro n h
    have hh : (Tm.three s a b c).ht = 1 + max a.ht (max b.ht c.ht) := rfl
    obtain ⟨m, rfl⟩ : ∃ m, n = m + 1 := ⟨n - 1, by omega⟩
    exact .inr ⟨_, .inr rfl, by show 4 ≤ 1000; decide, fun e mm => by
      rcases List.mem_cons.mp mm with rfl | mm
      · exact st _ _
      rcases List.mem_cons.mp mm with rfl | mm
      · exact ia (by omega)
      rcases List.mem_cons.mp mm with rfl | mm
      · exact ib (by omega)
      · rw [List.mem_singleton.mp mm]; exact ic (by omega)⟩
def spIsT (K : Frag) : Nat → Sp
  | 0 => fun _ _ _ _ => False
  | n + 1 => fun vs H Q _ => ∃ (v : V) (t : Tm), vs = [v] ∧ Dp K H v t.d ∧ t.ht ≤ n ∧ t.fine ∧ ∀ H', Same H H' → Q (.bl t.ok) H'
theorem is_imp {K : Frag} : ∀ n vs H Q E, spIs K n vs H Q E → spIsT K n vs H Q E
  | 0, _, _, _, _, h => h
  | n + 1, vs, H, Q, E, h => by
    obtain ⟨v, t, e, hd, hh, hf, k⟩ := h
    exact ⟨v, t.tm, e, by rw [tm_d]; exact hd, by rw [tm_ht]; exact hh, tm_fine hf, by rw [tm_ok]; exact k⟩
def spCkT (K : Frag) (CT : Addr) : Sp := fun vs H Q E => ∃ (v : V) (t : Tm), vs = [v] ∧ Dp K H v t.d ∧ t.ht ≤ 14 ∧ t.fine ∧ t.ok = false ∧ ∀ H' u, Same H H' → Dp K H' u t.d → RaisesV E CT u H'
def spWoT (K : Frag) (CT : Addr) : Sp := fun vs H Q E => ∃ (v : V) (t : Tm) (b g : Addr), vs = [v, .ref b, .ref g] ∧ Dp K H v t.d ∧ t.ht ≤ 14 ∧ t.fine ∧ t.ok = false ∧ ∀ H' u, Same H H' → Dp K H' u t.d → RaisesV E CT u H'
section
variable {P : Program} {w : World} {K : Frag} {mg : Str → Option Value} {base : Heap}
theorem ok_IsT {f : Addr} {fd : FuncData} (F : Fun K "is_sum" "is_sum" sIs f fd) (gIs : mg "is_sum" = some (.ref f)) (bIs : Binds K fd ["tree"] []) (B : Blt mg) (W : Wrt K w mg) (hIp : Has P w K mg base 1 "is_place" ["text"] (spIp)) (hNn : Has P w K mg base 2 "is_name" ["text"] (spNn)) :
    ∀ n, FnOk P w K mg base CX0 (n + 3) f fd ["tree"] (spIsT K n)
  | 0 => F.ok scIs (fun vs H Q E h => h.elim) (fun cdv A outer s H vs Q E hr h => h.elim)
  | n + 1 => by
    have GIs := ok_IsT F gIs bIs B W hIp hNn n
    have kIs := F.kp
    obtain ⟨fIp, dIp, gIp, kIp, bIp, GIp⟩ := hIp
    obtain ⟨fNn, dNn, gNn, kNn, bNn, GNn⟩ := hNn
    obtain ⟨pA, gA, sA⟩ := W.alls
    obtain ⟨dR, eR, nR, gR, DR, ns⟩ := W.rks
    refine F.ok scIs (fun vs H Q E h => ?_) (fun cdv A outer s H vs Q E hr h => ?_)
    · obtain ⟨v, t, rfl, _⟩ := h
      rfl
    · refine ⟨_, (pss_cons (ps_match (pv 0)
        (pcs_cons (is := [1]) scIs.nd (pp_seq rfl (pps_cons pp_lit (pps_cons pp_cap pps_nil))) (.cons ⟨rfl, .inl rfl, .inr rfl⟩ .nil)
          (pss_one (ps_ret (pe_cmpR op_ge (pv 1) pe_int (nomark _))))
        (pcs_cons (is := [2]) scIs.nd (pp_seq rfl (pps_cons pp_lit (pps_cons pp_cap pps_nil))) (.cons ⟨rfl, .inl rfl, .inr rfl⟩ .nil)
          (pss_one (ps_ret (pe_or (pe_call GNn (hr.mono (by omega)) rfl gNn kNn bNn .nil pass0 (pa_cons (pv 2) pa_nil)) (pe_one (pe_and (pe_call GIp (hr.mono (by omega)) rfl gIp kIp bIp .nil pass0 (pa_cons (pv 2) pa_nil)) (pe_one (pe_cmpR op_notIn_seq (pv 2) (pe_glob (v := .ref pA) (by rfl) gA rfl) (by rfl))))))))
        (pcs_cons (is := [3]) scIs.nd (pp_seq rfl (pps_cons (pp_or (pf_cons pp_lit (pf_cons pp_lit pf_nil))) (pps_cons pp_cap pps_nil))) (.cons ⟨rfl, .inl rfl, .inr rfl⟩ .nil)
          (pss_one (ps_ret (pe_call GIs (hr.mono (by omega)) rfl gIs kIs bIs .nil pass0 (pa_cons (pv 3) pa_nil))))
        (pcs_cons (is := [4, 5, 6]) scIs.nd (pp_seq rfl (pps_cons pp_lit (pps_cons pp_cap (pps_cons pp_cap (pps_cons pp_cap pps_nil))))) (.cons ⟨rfl, .inl rfl, .inr rfl⟩ (.cons ⟨rfl, .inl rfl, .inr rfl⟩ (.cons ⟨rfl, .inl rfl, .inr rfl⟩ .nil)))
          (pss_one (ps_ret (pe_and (pe_call GIs (hr.mono (by omega)) rfl gIs kIs bIs .nil pass0 (pa_cons (pv 4) pa_nil)) (pe_and (pe_call GIs (hr.mono (by omega)) rfl gIs kIs bIs .nil pass0 (pa_cons (pv 5) pa_nil)) (pe_one (pe_call GIs (hr.mono (by omega)) rfl gIs kIs bIs .nil pass0 (pa_cons (pv 6) pa_nil)))))))
        (pcs_cons (is := [7, 5, 6]) scIs.nd (pp_seq rfl (pps_cons pp_cap (pps_cons pp_cap (pps_cons pp_cap pps_nil)))) (.cons ⟨rfl, .inl rfl, .inr rfl⟩ (.cons ⟨rfl, .inl rfl, .inr rfl⟩ (.cons ⟨rfl, .inl rfl, .inr rfl⟩ .nil)))
          (pss_one (ps_ret (pe_and (pe_cmpR (op_in_kd DR) (pv 7) (pe_glob (v := .ref dR) (by rfl) gR rfl) (by rfl)) (pe_and (pe_call GIs (hr.mono (by omega)) rfl gIs kIs bIs .nil pass0 (pa_cons (pv 5) pa_nil)) (pe_one (pe_call GIs (hr.mono (by omega)) rfl gIs kIs bIs .nil pass0 (pa_cons (pv 6) pa_nil))))))) pcs_nil))))))
        (pss_one (ps_ret pe_bl))), ?_⟩
      obtain ⟨v, t, rfl, hd, hh, hf, k⟩ := h
      have k0 : Q (.bl t.ok) H := k H (Same.refl H)
      -- a part is asked
      have sub : ∀ {m : Nat} {u : Tm} {x : V} {H1 : Hp} {Q' : VK} {E' : XK}, u.ht + 1 ≤ n + 1 → n + 1 = m → u.fine → Dp K H1 x u.d → (∀ H2, Same H1 H2 → Q' (.bl u.ok) H2) → u.ht + 1 ≤ n → spIsT K n ([x] ++ []) H1 Q' E' := by
        intro m u x H1 Q' E' _ _ uf ud q hn
        obtain ⟨n', rfl⟩ : ∃ n', n = n' + 1 := ⟨n - 1, by omega⟩
        exact ⟨x, u, rfl, ud, by omega, uf, q⟩
      cases t with
      | num i =>
        obtain ⟨a, rfl, hq⟩ := dp_num hd
        exact ⟨_, rfl, case_hit hq hit_lit ⟨_, rfl, _, _, rfl, rfl, k0⟩⟩
      | of x =>
        obtain ⟨a, rfl, hq⟩ := dp_of hd
        refine ⟨_, rfl, case_miss hq ml (case_hit hq hit_lit ⟨_, rfl, x, rfl, hf, fun H1 s1 => ⟨_, rfl, ?_⟩⟩)⟩
        have z := k H1 s1
        have e0 : (Tm.of x).ok = (isNameB (cs x) || (isPlB (cs x) && !inV (.str x) (alW.map V.str))) := rfl
        cases e : isNameB (cs x) with
        | true =>
          rw [e0, e] at z
          exact if_yes rfl z
        | false =>
          refine if_no rfl ⟨_, rfl, x, rfl, hf, fun H2 s2 => ⟨_, rfl, ?_⟩⟩
          have z := k H2 (s1.trans s2)
          cases e2 : isPlB (cs x) with
          | false =>
            rw [e0, e, e2] at z
            exact if_no rfl z
          | true =>
            rw [e0, e, e2] at z
            exact if_yes rfl ⟨_, rfl, pA, alW.map V.str, rfl, .inr (sA H2), rfl, by decide +kernel, z⟩
      | odd b =>
        cases b with
        | true =>
          obtain ⟨p, x, rfl, hq, hx⟩ := pc_two (show Dp K H v (.tuple [.str "numbers", .int 1]) from hd)
          exact ⟨_, rfl, case_miss hq (.inl (miss_lit (by decide +kernel))) (case_miss hq (.inl (miss_lit (by decide +kernel))) (case_miss hq (.inl (mn_miss (by decide +kernel))) (len_miss hq (by simp) (len_miss hq (by simp) k0))))⟩
        | false =>
          obtain ⟨p, rfl, hq⟩ : ∃ p, v = .ref p ∧ SqT K H p [.str "not"] := by
            obtain ⟨p, xs, rfl, hq, all⟩ := dp_tup (show Dp K H v (.tuple [.str "not"]) from hd)
            cases all with
            | cons h1 t1 =>
              cases t1
              obtain rfl := dp_str h1
              exact ⟨p, rfl, hq⟩
          exact ⟨_, rfl, len_miss hq (by simp) (len_miss hq (by simp) (len_miss hq (by simp) (len_miss hq (by simp) (len_miss hq (by simp) k0))))⟩
      | one s a =>
        obtain ⟨p, x, rfl, hq, hx⟩ := pc_two hd
        have ha : a.ht + 1 ≤ n := by
          have : 1 + a.ht ≤ n := hh
          omega
        refine ⟨_, rfl, case_miss hq (.inl (miss_lit hf.1)) (case_miss hq (.inl (miss_lit hf.2.1)) ?_)⟩
        by_cases c : s = "minus" ∨ s = "no"
        · refine case_hit hq (mn_hit c) ⟨_, rfl, sub (m := n + 1) (by omega) rfl hf.2.2 hx (fun H1 s1 => ?_) ha⟩
          have z := k H1 s1
          have e0 : (Tm.one s a).ok = ((s == "minus" || s == "no") && a.ok) := rfl
          rw [e0, show (s == "minus" || s == "no") = true by rcases c with rfl | rfl <;> rfl] at z
          exact z
        · refine case_miss hq (.inl (mn_miss c)) (len_miss hq (by simp) (len_miss hq (by simp) ?_))
          have e0 : (Tm.one s a).ok = ((s == "minus" || s == "no") && a.ok) := rfl
          rw [e0, show (s == "minus" || s == "no") = false by
            rw [beq_eq_false_iff_ne.mpr fun z => c (.inl z), beq_eq_false_iff_ne.mpr fun z => c (.inr z)]
            rfl] at k0
          exact k0
      | two s a b =>
        obtain ⟨p, x, y, rfl, hq, hx, hy⟩ := pc_three hd
        have hab : 1 + max a.ht b.ht ≤ n := hh
        refine ⟨_, rfl, len_miss hq (by simp) (len_miss hq (by simp) (len_miss hq (by simp) (len_miss hq (by simp) (all_hit hq ?_))))⟩
        have e0 : (Tm.two s a b).ok = (isOp s && (a.ok && b.ok)) := rfl
        refine ⟨_, rfl, ?_⟩
        cases e : isOp s with
        | false =>
          rw [e0, e] at k0
          exact ⟨s, none, rfl, rfl, (ns s).1 e, _, rfl, if_no rfl k0⟩
        | true =>
          obtain ⟨t, et⟩ := (ns s).2 e
          refine ⟨s, _, rfl, rfl, et, _, rfl, if_yes rfl ⟨_, rfl, sub (m := n + 1) (by omega) rfl hf.1 hx (fun H1 s1 => ⟨_, rfl, ?_⟩) (by omega)⟩⟩
          cases ea : a.ok with
          | false =>
            have z := k H1 s1
            rw [e0, e, ea] at z
            exact if_no rfl z
          | true =>
            refine if_yes rfl ⟨_, rfl, sub (m := n + 1) (by omega) rfl hf.2 (dp_same s1 hy) (fun H2 s2 => ?_) (by omega)⟩
            have z := k H2 (s1.trans s2)
            rw [e0, e, ea] at z
            exact z
      | three s a b c =>
        obtain ⟨p, x, y, z, rfl, hq, hx, hy, hz⟩ := pc_four hd
        have habc : 1 + max a.ht (max b.ht c.ht) ≤ n := hh
        refine ⟨_, rfl, len_miss hq (by simp) (len_miss hq (by simp) (len_miss hq (by simp) ?_))⟩
        have e0 : (Tm.three s a b c).ok = ((s == "choose") && (a.ok && (b.ok && c.ok))) := rfl
        by_cases c0 : s = "choose"
        · subst c0
          refine case_hit hq hit_lit ⟨_, rfl, sub (m := n + 1) (by omega) rfl hf.1 hx (fun H1 s1 => ⟨_, rfl, ?_⟩) (by omega)⟩
          have e1 : (Tm.three "choose" a b c).ok = (a.ok && (b.ok && c.ok)) := rfl
          cases ea : a.ok with
          | false =>
            have z := k H1 s1
            rw [e1, ea] at z
            exact if_no rfl z
          | true =>
            refine if_yes rfl ⟨_, rfl, sub (m := n + 1) (by omega) rfl hf.2.1 (dp_same s1 hy) (fun H2 s2 => ⟨_, rfl, ?_⟩) (by omega)⟩
            cases eb : b.ok with
            | false =>
              have z := k H2 (s1.trans s2)
              rw [e1, ea, eb] at z
              exact if_no rfl z
            | true =>
              refine if_yes rfl ⟨_, rfl, sub (m := n + 1) (by omega) rfl hf.2.2 (dp_same (s1.trans s2) hz) (fun H3 s3 => ?_) (by omega)⟩
              have z := k H3 ((s1.trans s2).trans s3)
              rw [e1, ea, eb] at z
              exact z
        · refine case_miss hq (.inl (miss_lit c0)) (len_miss hq (by simp) ?_)
          rw [e0, beq_eq_false_iff_ne.mpr c0] at k0
          exact k0
theorem ok_CkT {f : Addr} {fd : FuncData} {fI : Addr} (EGi : EG K fI) {CT : Addr} {mT : List Value} (TT : EC K mg fI "InvalidTree" CT mT) {dI : FuncData} (GIn : FnOk P w K mg base CX0 1 fI dI ["self", "value"] (spInit K)) (bIn : Binds K dI ["self", "value"] []) (F : Fun K "check_sum" "check_sum" sCk f fd) (B : Blt mg)
    {fIs : Addr} {dIs : FuncData} (gIs : mg "is_sum" = some (.ref fIs)) (kIs : PySem.W.keepIn K (.ref fIs) = true) (bIs : Binds K dIs ["tree"] []) (GIs : FnOk P w K mg base CX0 18 fIs dIs ["tree"] (spIsT K 15))
    {fFr : Addr} {dFr : FuncData} (gFr : mg "fresh" = some (.ref fFr)) (kFr : PySem.W.keepIn K (.ref fFr) = true) (bFr : Binds K dFr ["thing"] []) (GFr : FnOk P w K mg base CX0 17 fFr dFr ["thing"] (spOw K 16)) :
    FnOk P w K mg base (L2.CX P w) 19 f fd ["tree"] (spCkT K CT) := by
  refine F.okX scCk (fun vs H Q E h => ?_) (fun cdv A outer s H vs Q E hr h => ?_)
  · obtain ⟨v, t, rfl, _⟩ := h
    rfl
  · refine ⟨_, (pss_one (ps_if (pt_not (pt_val (pe_call GIs hr rfl gIs kIs bIs .nil pass0 (pa_cons (pv 0) pa_nil)))) (pss_one (ps_raise rfl (takes_of rfl rfl rfl rfl) (pmk_oex TT.oex TT.iC EGi.tI GIn (hr.mono (by decide)) bIn .nil pass0 (by rfl) TT.gC (by exact (pa_cons (pe_call GFr (hr.mono (by decide)) rfl gFr kFr bFr .nil pass0 (pa_cons (pv 0) pa_nil)) pa_nil))))) pss_nil)), ?_⟩
    obtain ⟨v, t, rfl, hd, hh, hf, e, k0⟩ := h
    refine ⟨_, rfl, v, t, rfl, hd, hh, hf, fun H1 s1 => ⟨_, rfl, ?_⟩⟩
    refine if_yes (by rw [e]; rfl) ⟨_, rfl, v, t.d, rfl, dp_same s1 hd, tm_pl (n := 14) hh, fun H2 u S s2 ow nS => ?_⟩
    exact init_end TT.oex TT.no fun d nd' => k0 H2 u (s1.trans s2) (ow_dp ow) d nd'
theorem ok_WoT {CT : Addr} {f : Addr} {fd : FuncData} (F : Fun K "worked_out" "worked_out" sWo f fd) {fCk : Addr} {dCk : FuncData} (gCk : mg "check_sum" = some (.ref fCk)) (kCk : PySem.W.keepIn K (.ref fCk) = true) (bCk : Binds K dCk ["tree"] []) (GCk : FnOk P w K mg base (L2.CX P w) 19 fCk dCk ["tree"] (spCkT K CT)) :
    FnOk P w K mg base (L2.CX P w) 20 f fd ["tree", "names", "arguments"] (spWoT K CT) := by
  refine F.okX scWo (fun vs H Q E h => ?_) (fun cdv A outer s H vs Q E hr h => ?_)
  · obtain ⟨v, t, b, g, rfl, _⟩ := h
    rfl
  · refine ⟨_, (pss_cons (ps_expr (pe_callS GCk (hr.mono (by decide)) rfl gCk kCk bCk (fun σ => passAt (takes_of rfl rfl rfl rfl) σ) (by exact (pa_cons (pv 0) pa_nil)))) pss_never), ?_⟩
    obtain ⟨v, t, b, g, rfl, hd, hh, hf, e, k⟩ := h
    exact ⟨_, rfl, v, t, rfl, hd, hh, hf, e, k⟩
theorem ok_NiT {CT : Addr} {f : Addr} {fd : FuncData} (F : Fun K "names_in" "names_in" sNi f fd) {fCk : Addr} {dCk : FuncData} (gCk : mg "check_sum" = some (.ref fCk)) (kCk : PySem.W.keepIn K (.ref fCk) = true) (bCk : Binds K dCk ["tree"] []) (GCk : FnOk P w K mg base (L2.CX P w) 19 fCk dCk ["tree"] (spCkT K CT)) :
    FnOk P w K mg base (L2.CX P w) 20 f fd ["tree"] (spCkT K CT) := by
  refine F.okX scNi (fun vs H Q E h => ?_) (fun cdv A outer s H vs Q E hr h => ?_)
  · obtain ⟨v, t, rfl, _⟩ := h
    rfl
  · refine ⟨_, (pss_cons (ps_expr (pe_callS GCk (hr.mono (by decide)) rfl gCk kCk bCk (fun σ => passAt (takes_of rfl rfl rfl rfl) σ) (by exact (pa_cons (pv 0) pa_nil)))) pss_never), ?_⟩
    obtain ⟨v, t, rfl, hd, hh, hf, e, k⟩ := h
    exact ⟨_, rfl, v, t, rfl, hd, hh, hf, e, k⟩
theorem ok_SyT {CT : Addr} {f : Addr} {fd : FuncData} (F : Fun K "is_steady" "is_steady" sSy f fd) {fCk : Addr} {dCk : FuncData} (gCk : mg "check_sum" = some (.ref fCk)) (kCk : PySem.W.keepIn K (.ref fCk) = true) (bCk : Binds K dCk ["tree"] []) (GCk : FnOk P w K mg base (L2.CX P w) 19 fCk dCk ["tree"] (spCkT K CT)) :
    FnOk P w K mg base (L2.CX P w) 20 f fd ["tree"] (spCkT K CT) := by
  refine F.okX scSy (fun vs H Q E h => ?_) (fun cdv A outer s H vs Q E hr h => ?_)
  · obtain ⟨v, t, rfl, _⟩ := h
    rfl
  · refine ⟨_, (pss_cons (ps_expr (pe_callS GCk (hr.mono (by decide)) rfl gCk kCk bCk (fun σ => passAt (takes_of rfl rfl rfl rfl) σ) (by exact (pa_cons (pv 0) pa_nil)))) pss_never), ?_⟩
    obtain ⟨v, t, rfl, hd, hh, hf, e, k⟩ := h
    exact ⟨_, rfl, v, t, rfl, hd, hh, hf, e, k⟩
abbrev sFd : Stmt := top 29
abbrev nFd : List Str := ["tree"]
theorem scFd : FnScope nFd ["tree"] (defScope sFd) := ⟨rfl, rfl, rfl, by decide +kernel, rfl, by decide +kernel, by decide +kernel⟩
theorem ok_FdT {CT : Addr} {f : Addr} {fd : FuncData} (F : Fun K "folded" "folded" sFd f fd) {fCk : Addr} {dCk : FuncData} (gCk : mg "check_sum" = some (.ref fCk)) (kCk : PySem.W.keepIn K (.ref fCk) = true) (bCk : Binds K dCk ["tree"] []) (GCk : FnOk P w K mg base (L2.CX P w) 19 fCk dCk ["tree"] (spCkT K CT)) :
    FnOk P w K mg base (L2.CX P w) 20 f fd ["tree"] (spCkT K CT) := by
  refine F.okX scFd (fun vs H Q E h => ?_) (fun cdv A outer s H vs Q E hr h => ?_)
  · obtain ⟨v, t, rfl, _⟩ := h
    rfl
  · refine ⟨_, (pss_cons (ps_expr (pe_callS GCk (hr.mono (by decide)) rfl gCk kCk bCk (fun σ => passAt (takes_of rfl rfl rfl rfl) σ) (by exact (pa_cons (pv 0) pa_nil)))) pss_never), ?_⟩
    obtain ⟨v, t, rfl, hd, hh, hf, e, k⟩ := h
    exact ⟨_, rfl, v, t, rfl, hd, hh, hf, e, k⟩
end
end Qb
end PySem
namespace PySem
namespace Qb
open PySem.W PySem.Calls PyProof.Rows L2
/-! # _law_odd -/
def oddW : List Str := ["@", "*", "", "1a", "a-b", "01", "00", "-1", "a b", "$x", "##", "1 ", "a\n", "?0", "+"]
theorem oddW_no : ∀ w ∈ oddW, (Tm.of w).ok = false ∧ w.length ≤ 10 := by decide +kernel
def oddT : List Tm := [.one "neg" (.num 1), .two "**" (.num 2) (.num 2), .one "" (.of "a"), .odd true, .odd false]
theorem oddT_no : ∀ t ∈ oddT, t.ok = false ∧ t.ht ≤ 1 := by decide +kernel
theorem oddT_fine : ∀ t ∈ oddT, t.fine := fun t m => by
  simp only [oddT, List.mem_cons, List.not_mem_nil, or_false] at m
  rcases m with rfl | rfl | rfl | rfl | rfl
  · exact ⟨by decide +kernel, by decide +kernel, trivial⟩
  · exact ⟨trivial, trivial⟩
  · exact ⟨by decide +kernel, by decide +kernel, by show ("a" : Str).length ≤ 100000; decide +kernel⟩
  · trivial
  · trivial
theorem tm_hide {K : Frag} {H : Hp} {a : Addr} {ys : List V} (h : H a = some (.lst ys)) : ∀ {t : Tm} {v : V}, Dp K H v t.d → Dp K (hide H a) v t.d
  | .num i, v, d => by
    obtain ⟨c, rfl, q⟩ := dp_num d
    exact .tup (sqT_hide h q) (.cons (.str _) (.cons (.int _) .nil))
  | .of x, v, d => by
    obtain ⟨c, rfl, q⟩ := dp_of d
    exact .tup (sqT_hide h q) (.cons (.str _) (.cons (.str _) .nil))
  | .odd true, v, d => by
    obtain ⟨c, y, rfl, q, hy⟩ := pc_two (show Dp K H v (.tuple [.str "numbers", .int 1]) from d)
    cases hy
    exact .tup (sqT_hide h q) (.cons (.str _) (.cons (.int _) .nil))
  | .odd false, v, d => by
    obtain ⟨c, xs, rfl, q, all⟩ := dp_tup (show Dp K H v (.tuple [.str "not"]) from d)
    cases all with
    | cons h1 t1 =>
      cases t1
      obtain rfl := dp_str h1
      exact .tup (sqT_hide h q) (.cons (.str _) .nil)
  | .one s x1, v, d => by
    obtain ⟨c, y1, rfl, q, h1⟩ := pc_two d
    exact .tup (sqT_hide h q) (.cons (.str _) (.cons (tm_hide h h1) .nil))
  | .two s x1 x2, v, d => by
    obtain ⟨c, y1, y2, rfl, q, h1, h2⟩ := pc_three d
    exact .tup (sqT_hide h q) (.cons (.str _) (.cons (tm_hide h h1) (.cons (tm_hide h h2) .nil)))
  | .three s x1 x2 x3, v, d => by
    obtain ⟨c, y1, y2, y3, rfl, q, h1, h2, h3⟩ := pc_four d
    exact .tup (sqT_hide h q) (.cons (.str _) (.cons (tm_hide h h1) (.cons (tm_hide h h2) (.cons (tm_hide h h3) .nil))))
theorem pu_hide {K : Frag} {H : Hp} {p : Addr} {n : Nat} (u : Pu H p n) {a : Addr} {xs : List V} (h : SqT K H a xs) : SqT K (hide H p) a xs := by
  obtain ⟨x, y, z, e, _⟩ := u
  exact sqT_hide e h
def spOd (K : Frag) : Sp := fun vs H Q _ => ∃ (p : Addr) (n : Nat), vs = [.ref p] ∧ n ≤ 9000 ∧ Pu H p n ∧ ∀ (H' : Hp) (v : V) (t : Tm), Same (hide H p) (hide H' p) → Pu H' p (n + 2) → Dp K H' v t.d → t.ok = false → t.ht ≤ 1 → t.fine → Q v H'
section
variable {P : Program} {w : World} {K : Frag} {mg : Str → Option Value} {base : Heap}
abbrev sOd : Stmt := top 70
abbrev nOd : List Str := ["_law_purse_here", "_law_way", "_law_odd_here"]
theorem scOd : FnScope nOd ["_law_purse_here"] (defScope sOd) := ⟨rfl, rfl, rfl, by decide +kernel, rfl, by decide +kernel, by decide +kernel⟩
theorem has_Od {f : Addr} {fd : FuncData}  (F : Fun K "_law_odd" "_law_odd" sOd f fd) (g : mg "_law_odd" = some (.ref f)) (B : Blt mg) (hCo : Has P w K mg base 1 "_law_coin" ["_law_purse_here", "_law_many"] (spCo)) :
    Has P w K mg base 2 "_law_odd" ["_law_purse_here"] (spOd K) := by
  obtain ⟨fCo, dCo, gCo, kCo, bCo, GCo⟩ := hCo
  refine has_of F g (F.binds (ps := ["_law_purse_here"]) fun _ _ _ _ _ _ us hl => match us, hl with | [_], _ => rfl) (F.ok scOd (fun vs H Q E h => ?_) (fun cdv A outer s H vs Q E hr h => ?_))
  · obtain ⟨p, n, rfl, _⟩ := h
    rfl
  · refine ⟨_, (pss_cons (ps_set (i := 1) scOd.nd rfl (.inl rfl) (pe_call GCo hr rfl gCo kCo bCo .nil pass0 (pa_cons (pv 0) (pa_cons pe_int pa_nil))))
        (pss_cons (ps_if (pt_cmpR op_eq (pv 1) pe_int (nomark _)) (pss_one (ps_ret (pe_tup (pa_cons pe_str (pa_cons (pe_op op_sub (pe_un un_neg pe_int) (pe_call GCo hr rfl gCo kCo bCo .nil pass0 (pa_cons (pv 0) (pa_cons (pe_op op_pow pe_int pe_int) pa_nil)))) pa_nil))))) pss_nil)
        (pss_cons (ps_if (pt_cmpR op_eq (pv 1) pe_int (nomark _)) (pss_cons (ps_set (i := 2) scOd.nd rfl (.inl rfl) (pe_lst (pa_cons pe_str (pa_cons pe_str (pa_cons pe_str (pa_cons pe_str (pa_cons pe_str (pa_cons pe_str (pa_cons pe_str (pa_cons pe_str (pa_cons pe_str (pa_cons pe_str (pa_cons pe_str (pa_cons pe_str (pa_cons pe_str (pa_cons pe_str (pa_cons pe_str pa_nil)))))))))))))))))
          (pss_one (ps_ret (pe_tup (pa_cons pe_str (pa_cons (pe_ix ix_list (pv 2) (pe_call GCo hr rfl gCo kCo bCo .nil pass0 (pa_cons (pv 0) (pa_cons pe_int pa_nil))) (fun _ _ => rfl)) pa_nil)))))) pss_nil)
        (pss_cons (ps_set (i := 2) scOd.nd rfl (.inl rfl) (pe_lst (pa_cons (pe_tup (pa_cons pe_str (pa_cons (pe_tup (pa_cons pe_str (pa_cons pe_int pa_nil))) pa_nil))) (pa_cons (pe_tup (pa_cons pe_str (pa_cons (pe_tup (pa_cons pe_str (pa_cons pe_int pa_nil))) (pa_cons (pe_tup (pa_cons pe_str (pa_cons pe_int pa_nil))) pa_nil)))) (pa_cons (pe_tup (pa_cons pe_str (pa_cons (pe_tup (pa_cons pe_str (pa_cons pe_str pa_nil))) pa_nil))) (pa_cons (pe_tup (pa_cons pe_str (pa_cons pe_int pa_nil))) (pa_cons (pe_tup (pa_cons pe_str pa_nil)) pa_nil)))))))
        (pss_one (ps_ret (pe_ix ix_list (pv 2) (pe_call GCo hr rfl gCo kCo bCo .nil pass0 (pa_cons (pv 0) (pa_cons pe_int pa_nil))) (fun _ _ => rfl)))))))), ?_⟩
    obtain ⟨p, n, rfl, hn, u, k⟩ := h
    refine ⟨_, rfl, p, 3, _, rfl, by decide, by decide, by omega, u, fun H1 r hr1 u1 o1 => ?_⟩
    have s1 := offs o1
    refine ⟨_, rfl, rfl, _, rfl, if_by (fun _ => ?_) (fun _ => ?_)⟩
    · refine ⟨_, rfl, _, rfl, _, _, rfl, rfl, ⟨by decide, by decide, by decide⟩, p, 10 ^ 18, _, ?_, by decide, by decide, by omega, u1, fun H2 r2 hr2 u2 o2 => ?_⟩
      · rfl
      refine ⟨_, _, rfl, rfl, (by decide : 2 ≤ sizeLine), fun T nT => ?_⟩
      dsimp only at nT ⊢
      have s3 := same_upd (o := .tup [.str "number", .int (-1 - ((r2 : Nat) : Int))]) nT
      exact k _ _ (.num (-1 - ((r2 : Nat) : Int))) (s1.trans ((offs o2).trans (hide_mono s3))) ((u2.same s3).le (by omega)) (.tup (SqT.of upd_same) (.cons (.str _) (.cons (.int _) .nil))) (decide_eq_false (by omega)) (Nat.zero_le _) trivial
    refine ⟨_, rfl, rfl, _, rfl, if_by (fun _ => ?_) (fun _ => ?_)⟩
    · refine ⟨(by decide : 15 ≤ sizeLine), fun L nL => ?_⟩
      have nLp := u1.ne nL
      have u2 := u1.put (o := .lst (oddW.map V.str)) nLp
      have s2 := s1.trans (hide_mono (same_upd (o := .lst (oddW.map V.str)) nL))
      have hL2 : (L2.upd H1 L (.lst (oddW.map V.str))) L = some (.lst (oddW.map V.str)) := upd_same
      replace u2 : Pu (L2.upd H1 L (.lst [.str "@", .str "*", .str "", .str "1a", .str "a-b", .str "01", .str "00", .str "-1", .str "a b", .str "$x", .str "##", .str "1 ", .str "a\n", .str "?0", .str "+"])) p (n + 1) := u2
      replace s2 : Same (hide H p) (hide (L2.upd H1 L (.lst [.str "@", .str "*", .str "", .str "1a", .str "a-b", .str "01", .str "00", .str "-1", .str "a b", .str "$x", .str "##", .str "1 ", .str "a\n", .str "?0", .str "+"])) p) := s2
      replace hL2 : (L2.upd H1 L (.lst [.str "@", .str "*", .str "", .str "1a", .str "a-b", .str "01", .str "00", .str "-1", .str "a b", .str "$x", .str "##", .str "1 ", .str "a\n", .str "?0", .str "+"])) L = some (.lst (oddW.map V.str)) := hL2
      generalize L2.upd H1 L (.lst [.str "@", .str "*", .str "", .str "1a", .str "a-b", .str "01", .str "00", .str "-1", .str "a b", .str "$x", .str "##", .str "1 ", .str "a\n", .str "?0", .str "+"]) = H2 at u2 s2 hL2 ⊢
      refine ⟨_, rfl, _, rfl, p, 15, _, rfl, by decide, by decide, by omega, u2, fun H3 r3 hr3 u3 o3 => ?_⟩
      have hL3 := (o3 L nLp).trans hL2
      obtain ⟨w, mw, hw⟩ := pick_of oddW (r := r3) (by show r3 < 15; exact hr3)
      obtain ⟨w1, w2⟩ := oddW_no w mw
      refine ⟨L, _, _, _, rfl, rfl, SqL.of hL3, atI_nat hw, (by decide : 2 ≤ sizeLine), fun T nT => ?_⟩
      have s4 := same_upd (o := .tup [.str "of", .str w]) nT
      exact k _ _ (.of w) (s2.trans ((offs o3).trans (hide_mono s4))) ((u3.same s4).le (by omega)) (.tup (SqT.of upd_same) (.cons (.str _) (.cons (.str _) .nil))) w1 (Nat.zero_le _) (Nat.le_trans w2 (by decide))
    -- odd kinds
    have tup : ∀ {H' : Hp} {T : Addr} (xs : List V), H' T = none → Pu H' p (n + 1) → Same (hide H p) (hide H' p) → Pu (L2.upd H' T (.tup xs)) p (n + 1) ∧ Same (hide H p) (hide (L2.upd H' T (.tup xs)) p) ∧ Same H' (L2.upd H' T (.tup xs)) ∧ (L2.upd H' T (.tup xs)) T = some (.tup xs) := fun xs nT u' s' =>
      ⟨u'.put (u'.ne nT), s'.trans (hide_mono (same_upd nT)), same_upd nT, upd_same⟩
    refine ⟨(by decide : 2 ≤ sizeLine), fun T1 n1 => ?_⟩
    obtain ⟨v1, q1, z1, e1⟩ := tup [.str "number", .int 1] n1 u1 s1
    have d1 : Dp K (L2.upd H1 T1 (.tup [.str "number", .int 1])) (.ref T1) (Tm.num 1).d := .tup (SqT.of e1) (.cons (.str _) (.cons (.int _) .nil))
    generalize L2.upd H1 T1 (.tup [.str "number", .int 1]) = H2 at v1 q1 z1 e1 d1 ⊢
    refine ⟨(by decide : 2 ≤ sizeLine), fun T2 n2 => ?_⟩
    obtain ⟨v2, q2, z2, e2⟩ := tup [.str "neg", .ref T1] n2 v1 q1
    have d2 : Dp K (L2.upd H2 T2 (.tup [.str "neg", .ref T1])) (.ref T2) (Tm.one "neg" (.num 1)).d := .tup (SqT.of e2) (.cons (.str _) (.cons (dp_same z2 d1) .nil))
    generalize L2.upd H2 T2 (.tup [.str "neg", .ref T1]) = H3 at v2 q2 z2 e2 d2 ⊢
    refine ⟨(by decide : 2 ≤ sizeLine), fun T3 n3 => ?_⟩
    obtain ⟨v3, q3, z3, e3⟩ := tup [.str "number", .int 2] n3 v2 q2
    have d3 : Dp K (L2.upd H3 T3 (.tup [.str "number", .int 2])) (.ref T3) (Tm.num 2).d := .tup (SqT.of e3) (.cons (.str _) (.cons (.int _) .nil))
    generalize L2.upd H3 T3 (.tup [.str "number", .int 2]) = H4 at v3 q3 z3 e3 d3 ⊢
    refine ⟨(by decide : 2 ≤ sizeLine), fun T4 n4 => ?_⟩
    obtain ⟨v4, q4, z4, e4⟩ := tup [.str "number", .int 2] n4 v3 q3
    have d4 : Dp K (L2.upd H4 T4 (.tup [.str "number", .int 2])) (.ref T4) (Tm.num 2).d := .tup (SqT.of e4) (.cons (.str _) (.cons (.int _) .nil))
    generalize L2.upd H4 T4 (.tup [.str "number", .int 2]) = H5 at v4 q4 z4 e4 d4 ⊢
    refine ⟨(by decide : 3 ≤ sizeLine), fun T5 n5 => ?_⟩
    obtain ⟨v5, q5, z5, e5⟩ := tup [.str "**", .ref T3, .ref T4] n5 v4 q4
    have d5 : Dp K (L2.upd H5 T5 (.tup [.str "**", .ref T3, .ref T4])) (.ref T5) (Tm.two "**" (.num 2) (.num 2)).d := .tup (SqT.of e5) (.cons (.str _) (.cons (dp_same (z4.trans z5) d3) (.cons (dp_same z5 d4) .nil)))
    generalize L2.upd H5 T5 (.tup [.str "**", .ref T3, .ref T4]) = H6 at v5 q5 z5 e5 d5 ⊢
    refine ⟨(by decide : 2 ≤ sizeLine), fun T6 n6 => ?_⟩
    obtain ⟨v6, q6, z6, e6⟩ := tup [.str "of", .str "a"] n6 v5 q5
    have d6 : Dp K (L2.upd H6 T6 (.tup [.str "of", .str "a"])) (.ref T6) (Tm.of "a").d := .tup (SqT.of e6) (.cons (.str _) (.cons (.str _) .nil))
    generalize L2.upd H6 T6 (.tup [.str "of", .str "a"]) = H7 at v6 q6 z6 e6 d6 ⊢
    refine ⟨(by decide : 2 ≤ sizeLine), fun T7 n7 => ?_⟩
    obtain ⟨v7, q7, z7, e7⟩ := tup [.str "", .ref T6] n7 v6 q6
    have d7 : Dp K (L2.upd H7 T7 (.tup [.str "", .ref T6])) (.ref T7) (Tm.one "" (.of "a")).d := .tup (SqT.of e7) (.cons (.str _) (.cons (dp_same z7 d6) .nil))
    generalize L2.upd H7 T7 (.tup [.str "", .ref T6]) = H8 at v7 q7 z7 e7 d7 ⊢
    refine ⟨(by decide : 2 ≤ sizeLine), fun T8 n8 => ?_⟩
    obtain ⟨v8, q8, z8, e8⟩ := tup [.str "numbers", .int 1] n8 v7 q7
    have d8 : Dp K (L2.upd H8 T8 (.tup [.str "numbers", .int 1])) (.ref T8) (Tm.odd true).d := .tup (SqT.of e8) (.cons (.str _) (.cons (.int _) .nil))
    generalize L2.upd H8 T8 (.tup [.str "numbers", .int 1]) = H9 at v8 q8 z8 e8 d8 ⊢
    refine ⟨(by decide : 1 ≤ sizeLine), fun T9 n9 => ?_⟩
    obtain ⟨v9, q9, z9, e9⟩ := tup [.str "not"] n9 v8 q8
    have d9 : Dp K (L2.upd H9 T9 (.tup [.str "not"])) (.ref T9) (Tm.odd false).d := .tup (SqT.of e9) (.cons (.str _) .nil)
    generalize L2.upd H9 T9 (.tup [.str "not"]) = H10 at v9 q9 z9 e9 d9 ⊢
    refine ⟨(by decide : 5 ≤ sizeLine), fun L nL => ?_⟩
    have nLp := v9.ne nL
    have sL := same_upd (o := .lst [.ref T2, .ref T5, .ref T7, .ref T8, .ref T9]) nL
    have u2 := v9.put (o := .lst [.ref T2, .ref T5, .ref T7, .ref T8, .ref T9]) nLp
    have s2 := q9.trans (hide_mono sL)
    have hL2 : (L2.upd H10 L (.lst [.ref T2, .ref T5, .ref T7, .ref T8, .ref T9])) L = some (.lst [.ref T2, .ref T5, .ref T7, .ref T8, .ref T9]) := upd_same
    have dall : DpAll K (L2.upd H10 L (.lst [.ref T2, .ref T5, .ref T7, .ref T8, .ref T9])) [.ref T2, .ref T5, .ref T7, .ref T8, .ref T9] (oddT.map Tm.d) :=
      .cons (dp_same (z3.trans (z4.trans (z5.trans (z6.trans (z7.trans (z8.trans (z9.trans sL))))))) d2) (.cons (dp_same (z6.trans (z7.trans (z8.trans (z9.trans sL)))) d5) (.cons (dp_same (z8.trans (z9.trans sL)) d7) (.cons (dp_same (z9.trans sL) d8) (.cons (dp_same sL d9) .nil))))
    generalize L2.upd H10 L (.lst [.ref T2, .ref T5, .ref T7, .ref T8, .ref T9]) = H11 at u2 s2 hL2 dall ⊢
    refine ⟨_, rfl, _, rfl, p, 5, _, rfl, by decide, by decide, by omega, u2, fun H12 r3 hr3 u3 o3 => ?_⟩
    have hL3 := (o3 L nLp).trans hL2
    obtain ⟨t, ht⟩ : ∃ t, oddT[r3]? = some t := ⟨_, List.getElem?_eq_getElem (by show r3 < 5; exact hr3)⟩
    obtain ⟨v, hv, dv⟩ := dpAt dall (i := r3) (d := t.d) (by rw [List.getElem?_map, ht]; rfl)
    have mt := List.mem_of_getElem? ht
    obtain ⟨t1, t2⟩ := oddT_no t mt
    refine ⟨L, _, _, v, rfl, rfl, SqL.of hL3, atI_nat hv, ?_⟩
    obtain ⟨x, y, z, ep, _⟩ := u2
    exact k _ _ t (s2.trans (offs o3)) (u3.le (by omega)) (dp_same ((offs o3).trans hide_same) (tm_hide ep dv)) t1 t2 (oddT_fine t mt)
end
end Qb
end PySem
namespace PySem
namespace Qb
open PySem.W PySem.Calls PyProof.Rows L2
/-! # _law_spoiled, _law_twice -/
theorem kid_br : ∀ {t : Sm}, t.nice → t.fine → t.kids ≠ [] → ∃ s, t.d = .tuple (.str s :: t.kids.map Sm.d) ∧ (s ≠ "number" ∧ s ≠ "of") ∧ t.kids.length ≤ 3 ∧ ∀ u ∈ t.kids, u.ht + 1 ≤ t.ht ∧ u.nice ∧ u.fine
  | .num _, _, _, h => (h rfl).elim
  | .of _, _, _, h => (h rfl).elim
  | .one s a, h, k, _ => ⟨s, rfl, by rcases h.1 with z | z <;> (rw [z]; exact ⟨by decide +kernel, by decide +kernel⟩), by show 1 ≤ 3; decide, fun u m => by
    rw [List.mem_singleton.mp m]
    exact ⟨by show a.ht + 1 ≤ 1 + a.ht; omega, h.2, k.2.2⟩⟩
  | .two s a b, h, k, _ => ⟨s, rfl, ⟨fun z => by have := h.1; rw [z] at this; exact absurd this (by decide +kernel), fun z => by have := h.1; rw [z] at this; exact absurd this (by decide +kernel)⟩, by show 2 ≤ 3; decide, fun u m => by
    simp only [Sm.kids, List.mem_cons, List.not_mem_nil, or_false] at m
    rcases m with rfl | rfl
    · exact ⟨by show u.ht + 1 ≤ 1 + max u.ht b.ht; omega, h.2.1, k.1⟩
    · exact ⟨by show u.ht + 1 ≤ 1 + max a.ht u.ht; omega, h.2.2, k.2⟩⟩
  | .three s a b c, h, k, _ => ⟨s, rfl, by rw [h.1]; exact ⟨by decide +kernel, by decide +kernel⟩, by show 3 ≤ 3; decide, fun u m => by
    simp only [Sm.kids, List.mem_cons, List.not_mem_nil, or_false] at m
    rcases m with rfl | rfl | rfl
    · exact ⟨by show u.ht + 1 ≤ 1 + max u.ht (max b.ht c.ht); omega, h.2.1, k.1⟩
    · exact ⟨by show u.ht + 1 ≤ 1 + max a.ht (max u.ht c.ht); omega, h.2.2.1, k.2.1⟩
    · exact ⟨by show u.ht + 1 ≤ 1 + max a.ht (max b.ht u.ht); omega, h.2.2.2, k.2.2⟩⟩
theorem smAll_hide {K : Frag} {H : Hp} {a : Addr} {zs : List V} (h : H a = some (.lst zs)) : ∀ (l : List Sm) {vs : List V}, DpAll K H vs (l.map Sm.d) → DpAll K (hide H a) vs (l.map Sm.d)
  | [], _, .nil => .nil
  | t :: l, _, .cons h1 t1 => .cons (sm_hide h h1) (smAll_hide h l t1)
/-- a part exchanged -/
def setK : Sm → Nat → Tm → Tm
  | .num _, _, x => x
  | .of _, _, x => x
  | .one s _, _, x => .one s x
  | .two s a b, i, x => if i = 0 then .two s x b.tm else .two s a.tm x
  | .three s a b c, i, x => if i = 0 then .three s x b.tm c.tm else if i = 1 then .three s a.tm x c.tm else .three s a.tm b.tm x
theorem tm_map : ∀ l : List Sm, (l.map Sm.tm).map Tm.d = l.map Sm.d
  | [] => rfl
  | t :: l => by rw [List.map_cons, List.map_cons, List.map_cons, tm_d, tm_map l]
theorem setK_d {t : Sm} (hk : t.kids ≠ []) {s : Str} (hd : t.d = .tuple (.str s :: t.kids.map Sm.d)) {i : Nat} (hi : i < t.kids.length) (x : Tm) : (setK t i x).d = .tuple (.str s :: ((t.kids.map Sm.d).take i ++ (x.d :: (t.kids.map Sm.d).drop (i + 1)))) := by
  cases t with
  | num n => exact (hk rfl).elim
  | of w => exact (hk rfl).elim
  | one s' a =>
    injection hd with hd; injection hd with hd _; injection hd with hd
    subst hd
    have hi : i < 1 := hi
    obtain rfl : i = 0 := by omega
    rfl
  | two s' a b =>
    injection hd with hd; injection hd with hd _; injection hd with hd
    subst hd
    have hi : i < 2 := hi
    rcases (by omega : i = 0 ∨ i = 1) with rfl | rfl
    · show PyData.tuple [.str s', x.d, b.tm.d] = .tuple [.str s', x.d, b.d]
      rw [tm_d]
    · show PyData.tuple [.str s', a.tm.d, x.d] = .tuple [.str s', a.d, x.d]
      rw [tm_d]
  | three s' a b c =>
    injection hd with hd; injection hd with hd _; injection hd with hd
    subst hd
    have hi : i < 3 := hi
    rcases (by omega : i = 0 ∨ i = 1 ∨ i = 2) with rfl | rfl | rfl
    · show PyData.tuple [.str s', x.d, b.tm.d, c.tm.d] = .tuple [.str s', x.d, b.d, c.d]
      rw [tm_d, tm_d]
    · show PyData.tuple [.str s', a.tm.d, x.d, c.tm.d] = .tuple [.str s', a.d, x.d, c.d]
      rw [tm_d, tm_d]
    · show PyData.tuple [.str s', a.tm.d, b.tm.d, x.d] = .tuple [.str s', a.d, b.d, x.d]
      rw [tm_d, tm_d]
theorem setK_ok {t : Sm} {i : Nat} {x : Tm} (h : x.ok = false) : (setK t i x).ok = false := by
  cases t with
  | num n => exact h
  | of w => exact h
  | one s a => show ((s == "minus" || s == "no") && x.ok) = false; rw [h, Bool.and_false]
  | two s a b =>
    show (if i = 0 then Tm.two s x b.tm else Tm.two s a.tm x).ok = false
    split
    · show (isOp s && (x.ok && b.tm.ok)) = false; rw [h, Bool.false_and, Bool.and_false]
    · show (isOp s && (a.tm.ok && x.ok)) = false; rw [h, Bool.and_false, Bool.and_false]
  | three s a b c =>
    show (if i = 0 then Tm.three s x b.tm c.tm else if i = 1 then Tm.three s a.tm x c.tm else Tm.three s a.tm b.tm x).ok = false
    split
    · show ((s == "choose") && (x.ok && (b.tm.ok && c.tm.ok))) = false; rw [h, Bool.false_and, Bool.and_false]
    · split
      · show ((s == "choose") && (a.tm.ok && (x.ok && c.tm.ok))) = false; rw [h, Bool.false_and, Bool.and_false, Bool.and_false]
      · show ((s == "choose") && (a.tm.ok && (b.tm.ok && x.ok))) = false; rw [h, Bool.and_false, Bool.and_false, Bool.and_false]
theorem setK_ht {t : Sm} {i : Nat} {x : Tm} : (setK t i x).ht ≤ max t.ht (1 + x.ht) := by
  cases t with
  | num n => show x.ht ≤ _; omega
  | of w => show x.ht ≤ _; omega
  | one s a => show 1 + x.ht ≤ max (1 + a.ht) _; omega
  | two s a b =>
    show (if i = 0 then Tm.two s x b.tm else Tm.two s a.tm x).ht ≤ max (Sm.two s a b).ht (1 + x.ht)
    split
    · show 1 + max x.ht b.tm.ht ≤ max (1 + max a.ht b.ht) _; rw [tm_ht]; omega
    · show 1 + max a.tm.ht x.ht ≤ max (1 + max a.ht b.ht) _; rw [tm_ht]; omega
  | three s a b c =>
    show (if i = 0 then Tm.three s x b.tm c.tm else if i = 1 then Tm.three s a.tm x c.tm else Tm.three s a.tm b.tm x).ht ≤ max (Sm.three s a b c).ht (1 + x.ht)
    split
    · show 1 + max x.ht (max b.tm.ht c.tm.ht) ≤ max (1 + max a.ht (max b.ht c.ht)) _; rw [tm_ht, tm_ht]; omega
    · split
      · show 1 + max a.tm.ht (max x.ht c.tm.ht) ≤ max (1 + max a.ht (max b.ht c.ht)) _; rw [tm_ht, tm_ht]; omega
      · show 1 + max a.tm.ht (max b.tm.ht x.ht) ≤ max (1 + max a.ht (max b.ht c.ht)) _; rw [tm_ht, tm_ht]; omega
theorem setK_fine {t : Sm} {i : Nat} {x : Tm} (h : t.fine) (f : x.fine) : (setK t i x).fine := by
  cases t with
  | num n => exact f
  | of w => exact f
  | one s a => exact ⟨h.1, h.2.1, f⟩
  | two s a b =>
    show (if i = 0 then Tm.two s x b.tm else Tm.two s a.tm x).fine
    split
    · exact ⟨f, tm_fine h.2⟩
    · exact ⟨tm_fine h.1, f⟩
  | three s a b c =>
    show (if i = 0 then Tm.three s x b.tm c.tm else if i = 1 then Tm.three s a.tm x c.tm else Tm.three s a.tm b.tm x).fine
    split
    · exact ⟨f, tm_fine h.2.1, tm_fine h.2.2⟩
    · split
      · exact ⟨tm_fine h.1, f, tm_fine h.2.2⟩
      · exact ⟨tm_fine h.1, tm_fine h.2.1, f⟩
def spSpl (K : Frag) : Nat → Sp
  | 0 => fun _ _ _ _ => False
  | n + 1 => fun vs H Q _ => ∃ (v : V) (t : Sm) (p : Addr) (c : Nat), vs = [v, .ref p] ∧ c + 4 * (n + 1) ≤ 8000 ∧ Pu H p c ∧ Dp K H v t.d ∧ t.ht ≤ n ∧ n ≤ 14 ∧ t.nice ∧ t.fine ∧
    ∀ (H' : Hp) (v' : V) (t' : Tm), Same (hide H p) (hide H' p) → Pu H' p (c + 4 * (n + 1)) → Dp K H' v' t'.d → t'.ok = false → t'.ht ≤ n + 1 → t'.fine → Q v' H'
section
variable {P : Program} {w : World} {K : Frag} {mg : Str → Option Value} {base : Heap}
abbrev sSp : Stmt := top 71
abbrev nSp : List Str := ["_law_node", "_law_purse_here", "_law_place"]
theorem scSp : FnScope nSp ["_law_node", "_law_purse_here"] (defScope sSp) := ⟨rfl, rfl, rfl, by decide +kernel, rfl, by decide +kernel, by decide +kernel⟩
theorem ok_Sp {f : Addr} {fd : FuncData} (F : Fun K "_law_spoiled" "_law_spoiled" sSp f fd) (gSp : mg "_law_spoiled" = some (.ref f)) (bSp : Binds K fd ["_law_node", "_law_purse_here"] []) (B : Blt mg) (hCo : Has P w K mg base 1 "_law_coin" ["_law_purse_here", "_law_many"] (spCo)) (hOd : Has P w K mg base 2 "_law_odd" ["_law_purse_here"] (spOd K)) :
    ∀ n, FnOk P w K mg base CX0 (n + 3) f fd ["_law_node", "_law_purse_here"] (spSpl K n)
  | 0 => F.ok scSp (fun vs H Q E h => h.elim) (fun cdv A outer s H vs Q E hr h => h.elim)
  | n + 1 => by
    have GSp := ok_Sp F gSp bSp B hCo hOd n
    have kSp := F.kp
    obtain ⟨fCo, dCo, gCo, kCo, bCo, GCo⟩ := hCo
    obtain ⟨fOd, dOd, gOd, kOd, bOd, GOd⟩ := hOd
    refine F.ok scSp (fun vs H Q E h => ?_) (fun cdv A outer s H vs Q E hr h => ?_)
    · obtain ⟨v, t, p, c, rfl, _⟩ := h
      rfl
    · refine ⟨_, (pss_cons (ps_if (PW.pt (pw_or (pt_cmpR op_in_seq (pe_ix ix_tup (pv 0) pe_int (fun _ _ => rfl)) (pe_lst (pa_cons pe_str (pa_cons pe_str pa_nil))) (by rfl)) (pw_or1 (pt_cmpR op_eq (pe_call GCo (hr.mono (by omega)) rfl gCo kCo bCo .nil pass0 (pa_cons (pv 1) (pa_cons pe_int pa_nil))) pe_int (nomark _))))) (pss_one (ps_ret (pe_call GOd (hr.mono (by omega)) rfl gOd kOd bOd .nil pass0 (pa_cons (pv 1) pa_nil)))) pss_nil)
        (pss_cons (ps_set (i := 2) scSp.nd rfl (.inl rfl) (pe_op op_add pe_int (pe_call GCo (hr.mono (by omega)) rfl gCo kCo bCo .nil pass0 (pa_cons (pv 1) (pa_cons (pe_op op_sub (pe_callB call_len_seq (by rfl) B.len PySem.boot_len (pa_cons (pv 0) pa_nil)) pe_int) pa_nil)))))
        (pss_one (ps_ret (pe_op op_catT (pe_op op_catT (pe_slice sl_tup (pv 0) po_none (po_some (pv 2))) (pe_tup (pa_cons (pe_call GSp hr rfl gSp kSp bSp .nil pass0 (pa_cons (pe_ix ix_tup (pv 0) (pv 2) (fun _ _ => rfl)) (pa_cons (pv 1) pa_nil))) pa_nil))) (pe_slice sl_tup (pv 0) (po_some (pe_op op_add (pv 2) pe_int)) po_none)))))), ?_⟩
      obtain ⟨v, t, p, c, rfl, hc, u, hd, hh, hn, nice, fine, k⟩ := h
      have kid : ∀ {u' : Sm} {x : V} {H1 : Hp} {Q' : VK} {c' : Nat}, u'.ht + 1 ≤ n → u'.nice → u'.fine → c' + 4 * n ≤ 8000 → Pu H1 p c' → Dp K H1 x u'.d → (∀ (H' : Hp) (v' : V) (t' : Tm), Same (hide H1 p) (hide H' p) → Pu H' p (c' + 4 * n) → Dp K H' v' t'.d → t'.ok = false → t'.ht ≤ n → t'.fine → Q' v' H') → spSpl K n ([x, .ref p] ++ []) H1 Q' E0 := by
        intro u' x H1 Q' c' a1 a2 a3 a4 a5 a6 a7
        obtain ⟨m, rfl⟩ : ∃ m, n = m + 1 := ⟨n - 1, by omega⟩
        exact ⟨x, u', p, c', rfl, a4, a5, a6, by omega, by omega, a2, a3, a7⟩
      have nLs : ∀ {H' : Hp} {T : Addr} {c' : Nat} (xs : List V), H' T = none → Pu H' p c' → Pu (L2.upd H' T (.lst xs)) p c' := fun xs nT u' => u'.put (u'.ne nT)
      have odd : ∀ {H1 : Hp}, Same (hide H p) (hide H1 p) → Pu H1 p (c + 1) → spOd K ([.ref p] ++ []) H1 Q E0 := fun {H1} s1 u1 =>
        ⟨p, c + 1, rfl, by omega, u1, fun H' v' t' s2 u2 d2 o2 h2 f2 => k H' v' t' (s1.trans s2) (u2.le (by omega)) d2 o2 (by omega) f2⟩
      by_cases leaf : t.kids = []
      · have lf : ∃ (a : Addr) (z : Str) (y : V), v = .ref a ∧ SqT K H a [.str z, y] ∧ (z = "number" ∨ z = "of") := by
          cases t with
          | num i =>
            obtain ⟨a, rfl, hq⟩ := dp_num hd
            exact ⟨a, _, _, rfl, hq, .inl rfl⟩
          | of x =>
            obtain ⟨a, rfl, hq⟩ := dp_of hd
            exact ⟨a, _, _, rfl, hq, .inr rfl⟩
          | one s a => cases leaf
          | two s a b => cases leaf
          | three s a b c => cases leaf
        obtain ⟨a, z, y, rfl, hq, hz⟩ := lf
        refine ⟨_, rfl, a, _, 0, _, rfl, rfl, hq, at0, (by decide : 2 ≤ sizeLine), fun T nT => ?_⟩
        have s1 := same_upd (o := .lst ((["number", "of"] : List Str).map V.str)) nT
        have u1 := nLs ((["number", "of"] : List Str).map V.str) nT u
        refine ⟨T, (["number", "of"] : List Str).map V.str, rfl, .inl (SqL.of upd_same), rfl, by decide +kernel, _, rfl, ?_⟩
        dsimp only
        rw [if_neg (by decide : ¬ false = true), inV_iff]
        exact if_yes (decide_eq_true (by rcases hz with rfl | rfl <;> simp)) ⟨_, rfl, odd (hide_mono s1) (u1.le (by omega))⟩
      · obtain ⟨s', e1, nn, few, sub⟩ := kid_br nice fine leaf
        obtain ⟨a, ys, rfl, hq, all⟩ : ∃ a ys, v = .ref a ∧ SqT K H a (.str s' :: ys) ∧ DpAll K H ys (t.kids.map Sm.d) := by
          rw [e1] at hd
          obtain ⟨a, ys, rfl, hq, all⟩ := dp_tup hd
          cases all with
          | cons h1 t1 =>
            obtain rfl := dp_str h1
            exact ⟨a, _, rfl, hq, t1⟩
        have ly : ys.length = t.kids.length := by rw [dpLen all, List.length_map]
        have lk : t.kids.length ≠ 0 := fun z => leaf (List.length_eq_zero_iff.mp z)
        refine ⟨_, rfl, a, _, 0, _, rfl, rfl, hq, at0, (by decide : 2 ≤ sizeLine), fun T nT => ?_⟩
        have s1 := same_upd (o := .lst ((["number", "of"] : List Str).map V.str)) nT
        have u1 := nLs ((["number", "of"] : List Str).map V.str) nT u
        refine ⟨T, (["number", "of"] : List Str).map V.str, rfl, .inl (SqL.of upd_same), rfl, by decide +kernel, _, rfl, ?_⟩
        dsimp only
        rw [if_neg (by decide : ¬ false = true), inV_iff]
        replace s1 : Same H (L2.upd H T (.lst [.str "number", .str "of"])) := s1
        replace u1 : Pu (L2.upd H T (.lst [.str "number", .str "of"])) p c := u1
        generalize L2.upd H T (.lst [.str "number", .str "of"]) = H1 at s1 u1 ⊢
        refine if_no (decide_eq_false fun z => by
          simp only [List.mem_cons, List.not_mem_nil, or_false] at z
          exact z.elim nn.1 nn.2) ?_
        refine ⟨_, rfl, p, 4, _, rfl, by decide, by decide, by omega, u1, fun H2 r hr2 u2 o2 => ?_⟩
        have s2 := (hide_mono s1).trans (offs o2)
        refine ⟨rfl, _, rfl, if_by (fun _ => ⟨_, rfl, odd s2 u2⟩) (fun _ => ?_)⟩
        obtain ⟨x0, y0, z0, ep, _⟩ := id u
        -- what was there is there
        have old : ∀ {H' : Hp} {b : Addr} {xs : List V}, Same (hide H p) (hide H' p) → SqT K H b xs → SqT K H' b xs := fun s h => sqT_same (s.trans hide_same) (sqT_hide ep h)
        have oldD : ∀ {H' : Hp} {x : V} {q : Sm}, Same (hide H p) (hide H' p) → Dp K H x q.d → Dp K H' x q.d := fun s h => dp_same (s.trans hide_same) (sm_hide ep h)
        have oldA : ∀ {H' : Hp}, Same (hide H p) (hide H' p) → DpAll K H' ys (t.kids.map Sm.d) := fun s => dpAll_same (s.trans hide_same) (smAll_hide ep _ all)
        refine ⟨_, rfl, _, rfl, a, _, rfl, .inr (old s2 hq), _, _, rfl, rfl, p, t.kids.length, _, congrArg (fun z : Int => [V.ref p, V.int z]) (by rw [List.length_cons, ly]; omega), by omega, by omega, by omega, u2, fun H3 r3 hr3 u3 o3 => ?_⟩
        have s3 := s2.trans (offs o3)
        refine ⟨_, _, rfl, rfl, ?_⟩
        dsimp only
        obtain ⟨q, hqk⟩ : ∃ q, t.kids[r3]? = some q := ⟨_, List.getElem?_eq_getElem hr3⟩
        obtain ⟨y, hy, dy⟩ := dpAt all (i := r3) (d := q.d) (by rw [List.getElem?_map, hqk]; rfl)
        obtain ⟨q1, q2, q3⟩ := sub q (List.mem_of_getElem? hqk)
        have e1r : (1 + ((r3 : Nat) : Int)) = ((r3 + 1 : Nat) : Int) := by omega
        have e2r : (1 + ((r3 : Nat) : Int) + 1) = ((r3 + 2 : Nat) : Int) := by omega
        have lL : (V.str s' :: ys).length = t.kids.length + 1 := by rw [List.length_cons, ly]
        -- ahead of it
        refine ⟨_, rfl, _, rfl, _, rfl, a, _, rfl, old s3 hq, ?_, fun T1 nT1 => ?_⟩
        · rw [e1r]
          rintro ⟨_, z⟩
          rw [HT.sIx_nat, lL] at z
          omega
        have ec : cutV (.str s' :: ys) none (some (1 + ((r3 : Nat) : Int))) = .str s' :: ys.take r3 := by
          rw [e1r]
          show ((V.str s' :: ys).drop (HT.sIx _ 0 none)).take (HT.sIx _ _ (some ((r3 + 1 : Nat) : Int)) - HT.sIx _ 0 none) = _
          rw [HT.sIx_nat, show HT.sIx (V.str s' :: ys).length 0 none = 0 from rfl, List.drop_zero, Nat.sub_zero, lL, Nat.min_eq_left (by omega)]
          rfl
        rw [ec]
        have nT1p := u3.ne nT1
        have t4 := same_upd (o := .tup (.str s' :: ys.take r3)) nT1
        have u4 := u3.put (o := .tup (.str s' :: ys.take r3)) nT1p
        have s4 := s3.trans (hide_mono t4)
        have hT1 : (L2.upd H3 T1 (.tup (.str s' :: ys.take r3))) T1 = some (.tup (.str s' :: ys.take r3)) := upd_same
        generalize L2.upd H3 T1 (.tup (.str s' :: ys.take r3)) = H4 at t4 u4 s4 hT1 ⊢
        -- the part itself
        refine ⟨_, rfl, _, rfl, a, _, _, y, rfl, by rw [e1r], old s4 hq, atI_nat (j := r3 + 1) hy, _, rfl, ?_⟩
        refine kid (Nat.le_trans q1 hh) q2 q3 (by omega) u4 (oldD s4 dy) fun H5 v' t' s5 u5 d5 o5 h5 f5 => ?_
        have a5 := s4.trans s5
        have hT15 : H5 T1 = some (.tup (.str s' :: ys.take r3)) := hide_same _ _ (s5 _ _ (hide_ne hT1 nT1p))
        refine ⟨(by decide : 1 ≤ sizeLine), fun T2 nT2 => ?_⟩
        have t6 := same_upd (o := .tup [v']) nT2
        have u6 := u5.put (o := .tup [v']) (u5.ne nT2)
        have hT2 : (L2.upd H5 T2 (.tup [v'])) T2 = some (.tup [v']) := upd_same
        have hT16 := t6 _ _ hT15
        generalize L2.upd H5 T2 (.tup [v']) = H6 at t6 u6 hT2 hT16 ⊢
        refine ⟨T1, T2, _, [v'], rfl, rfl, SqT.of hT16, SqT.of hT2, by simp, ?_, fun z => (by cases z), fun _ T3 nT3 => ?_⟩
        · rw [List.length_cons, List.length_take]
          exact Nat.le_trans (by have := Nat.min_le_right r3 ys.length; show _ + 1 ≤ 6; omega) (by decide)
        have t7 := same_upd (o := .tup (V.str s' :: ys.take r3 ++ [v'])) nT3
        have u7 := u6.put (o := .tup (V.str s' :: ys.take r3 ++ [v'])) (u6.ne nT3)
        have hT3 : (L2.upd H6 T3 (.tup (V.str s' :: ys.take r3 ++ [v']))) T3 = some (.tup (.str s' :: (ys.take r3 ++ [v']))) := upd_same
        generalize L2.upd H6 T3 (.tup (V.str s' :: ys.take r3 ++ [v'])) = H7 at t7 u7 hT3 ⊢
        have a7 := a5.trans (hide_mono (t6.trans t7))
        -- behind it
        refine ⟨_, rfl, _, rfl, _, _, rfl, rfl, _, rfl, a, _, rfl, old a7 hq, ?_, fun T4 nT4 => ?_⟩
        · rw [e2r]
          rintro ⟨z, _⟩
          rw [HT.sIx_nat, lL] at z
          omega
        have ec2 : cutV (.str s' :: ys) (some (1 + ((r3 : Nat) : Int) + 1)) none = ys.drop (r3 + 1) := by
          rw [e2r]
          show ((V.str s' :: ys).drop (HT.sIx _ 0 (some ((r3 + 2 : Nat) : Int)))).take (HT.sIx _ _ none - HT.sIx _ 0 (some ((r3 + 2 : Nat) : Int))) = _
          rw [HT.sIx_nat, show HT.sIx (V.str s' :: ys).length (V.str s' :: ys).length none = (V.str s' :: ys).length from rfl, lL, Nat.min_eq_left (by omega)]
          exact List.take_of_length_le (by rw [List.length_drop, lL]; exact Nat.le_refl _)
        rw [ec2]
        have t8 := same_upd (o := .tup (ys.drop (r3 + 1))) nT4
        have u8 := u7.put (o := .tup (ys.drop (r3 + 1))) (u7.ne nT4)
        have hT4 : (L2.upd H7 T4 (.tup (ys.drop (r3 + 1)))) T4 = some (.tup (ys.drop (r3 + 1))) := upd_same
        have hT38 := t8 _ _ hT3
        generalize L2.upd H7 T4 (.tup (ys.drop (r3 + 1))) = H8 at t8 u8 hT4 hT38 ⊢
        have a8 := a7.trans (hide_mono t8)
        have dall8 : DpAll K H8 ys (t.kids.map Sm.d) := oldA a8
        have dv8 : Dp K H8 v' t'.d := dp_same (t6.trans (t7.trans t8)) d5
        have dres : ∀ {H' : Hp} {R : Addr}, Same H8 H' → SqT K H' R (.str s' :: (ys.take r3 ++ (v' :: ys.drop (r3 + 1)))) → Dp K H' (.ref R) (setK t r3 t').d := fun s hR => by
          rw [setK_d leaf e1 hr3]
          exact .tup hR (.cons (.str _) (dpApp (dpTake r3 (dpAll_same s dall8)) (.cons (dp_same s dv8) (dpDrop (r3 + 1) (dpAll_same s dall8)))))
        have fin : ∀ {H' : Hp} {R : Addr}, Same H8 H' → Pu H' p (c + 2 + 4 * n) → SqT K H' R (.str s' :: (ys.take r3 ++ (v' :: ys.drop (r3 + 1)))) → Q (.ref R) H' := fun s u' hR =>
          k _ _ _ (a8.trans (hide_mono s)) (u'.le (by omega)) (dres s hR) (setK_ok o5) (Nat.le_trans setK_ht (by omega)) (setK_fine fine f5)
        refine ⟨T3, T4, _, _, rfl, rfl, SqT.of hT38, SqT.of hT4, by simp, ?_, fun z => ?_, fun _ T5 nT5 => ?_⟩
        · rw [List.length_cons, List.length_append, List.length_take, List.length_drop]
          exact Nat.le_trans (by have := Nat.min_le_right r3 ys.length; simp; omega : _ ≤ 12) (by decide)
        · rw [z] at fin
          exact fin (Same.refl _) u8 (SqT.of hT38)
        · refine fin (same_upd nT5) (u8.put (u8.ne nT5)) (SqT.of ?_)
          rw [upd_same]
          simp
end
end Qb
end PySem
namespace PySem
namespace Qb
open PySem.W PySem.Calls PyProof.Rows L2
/-! # _law_twice, _law_refusal -/
theorem spl12 {K : Frag} {H : Hp} {Q : VK} {E : XK} {v : V} {t : Sm} {p : Addr} {c : Nat} (h1 : c + 48 ≤ 8000) (h2 : Pu H p c) (h3 : Dp K H v t.d) (h4 : t.ht ≤ 11) (h5 : t.nice) (h6 : t.fine)
    (k : ∀ (H' : Hp) (v' : V) (t' : Tm), Same (hide H p) (hide H' p) → Pu H' p (c + 48) → Dp K H' v' t'.d → t'.ok = false → t'.ht ≤ 12 → t'.fine → Q v' H') : spSpl K 12 ([v, .ref p] ++ []) H Q E :=
  ⟨v, t, p, c, rfl, h1, h2, h3, h4, by decide, h5, h6, k⟩
def spTc (K : Frag) : Sp := fun vs H Q _ => ∃ (v : V) (t : Sm) (p : Addr) (c : Nat), vs = [v, .ref p] ∧ c ≤ 4000 ∧ Pu H p c ∧ Dp K H v t.d ∧ t.ht ≤ 11 ∧ t.nice ∧ t.fine ∧
  ∀ (H' : Hp) (v' : V) (t' : Tm), Same (hide H p) (hide H' p) → Pu H' p (c + 100) → Dp K H' v' t'.d → t'.ok = false → t'.ht ≤ 13 → t'.fine → Q v' H'
section
variable {P : Program} {w : World} {K : Frag} {mg : Str → Option Value} {base : Heap}
abbrev sTc : Stmt := top 72
abbrev nTc : List Str := ["_law_node", "_law_purse_here"]
theorem scTc : FnScope nTc ["_law_node", "_law_purse_here"] (defScope sTc) := ⟨rfl, rfl, rfl, by decide +kernel, rfl, by decide +kernel, by decide +kernel⟩
theorem has_Tc {f : Addr} {fd : FuncData}  (F : Fun K "_law_twice" "_law_twice" sTc f fd) (g : mg "_law_twice" = some (.ref f)) (B : Blt mg) (hSp : Has P w K mg base 15 "_law_spoiled" ["_law_node", "_law_purse_here"] (spSpl K 12)) :
    Has P w K mg base 16 "_law_twice" ["_law_node", "_law_purse_here"] (spTc K) := by
  obtain ⟨fSp, dSp, gSp, kSp, bSp, GSp⟩ := hSp
  refine has_of F g (F.binds (ps := ["_law_node", "_law_purse_here"]) fun _ _ _ _ _ _ us hl => match us, hl with | [_, _], _ => rfl) (F.ok scTc (fun vs H Q E h => ?_) (fun cdv A outer s H vs Q E hr h => ?_))
  · obtain ⟨v, t, p, c, rfl, _⟩ := h
    rfl
  · refine ⟨_, (pss_cons (ps_if (pt_cmpR op_lt (pe_callB call_len_seq (by rfl) B.len PySem.boot_len (pa_cons (pv 0) pa_nil)) pe_int (nomark _)) (pss_one (ps_ret (pe_call GSp hr rfl gSp kSp bSp .nil pass0 (pa_cons (pv 0) (pa_cons (pv 1) pa_nil))))) pss_nil)
        (pss_one (ps_ret (pe_op op_catT (pe_tup (pa_cons (pe_ix ix_tup (pv 0) pe_int (fun _ _ => rfl)) (pa_cons (pe_call GSp hr rfl gSp kSp bSp .nil pass0 (pa_cons (pe_ix ix_tup (pv 0) pe_int (fun _ _ => rfl)) (pa_cons (pv 1) pa_nil))) (pa_cons (pe_call GSp hr rfl gSp kSp bSp .nil pass0 (pa_cons (pe_ix ix_tup (pv 0) pe_int (fun _ _ => rfl)) (pa_cons (pv 1) pa_nil))) pa_nil)))) (pe_slice sl_tup (pv 0) (po_some pe_int) po_none))))), ?_⟩
    obtain ⟨v, t, p, c, rfl, hc, u, hd, hh, nice, fine, k⟩ := h
    obtain ⟨x0, y0, z0, ep, _⟩ := id u
    have old : ∀ {H' : Hp} {b : Addr} {xs : List V}, Same (hide H p) (hide H' p) → SqT K H b xs → SqT K H' b xs := fun s h => sqT_same (s.trans hide_same) (sqT_hide ep h)
    have oldD : ∀ {H' : Hp} {x : V} {q : Sm}, Same (hide H p) (hide H' p) → Dp K H x q.d → Dp K H' x q.d := fun s h => dp_same (s.trans hide_same) (sm_hide ep h)
    have same1 : spSpl K 12 ([v, .ref p] ++ []) H Q E0 := spl12 (E := E0) (by omega) u hd hh nice fine fun H' v' t' s' u' d' o' h' f' => k H' v' t' s' (u'.le (by omega)) d' o' (by omega) f'
    cases t with
    | num i =>
      obtain ⟨q, rfl, hq⟩ := dp_num hd
      exact ⟨_, rfl, q, _, rfl, .inr hq, _, _, rfl, rfl, _, rfl, if_yes rfl ⟨_, rfl, _, rfl, same1⟩⟩
    | of x =>
      obtain ⟨q, rfl, hq⟩ := dp_of hd
      exact ⟨_, rfl, q, _, rfl, .inr hq, _, _, rfl, rfl, _, rfl, if_yes rfl ⟨_, rfl, _, rfl, same1⟩⟩
    | one s a =>
      obtain ⟨q, x, rfl, hq, hx⟩ := pc_two hd
      exact ⟨_, rfl, q, _, rfl, .inr hq, _, _, rfl, rfl, _, rfl, if_yes rfl ⟨_, rfl, _, rfl, same1⟩⟩
    | two s a b =>
      obtain ⟨q, x, y, rfl, hq, hx, hy⟩ := pc_three hd
      have hab : 1 + max a.ht b.ht ≤ 11 := hh
      obtain ⟨_, na, nb⟩ := nice
      obtain ⟨fa, fb⟩ := fine
      refine ⟨_, rfl, q, _, rfl, .inr hq, _, _, rfl, rfl, _, rfl, if_no rfl ?_⟩
      refine ⟨_, rfl, q, _, 0, _, rfl, rfl, hq, at0, ?_⟩
      refine ⟨_, rfl, q, _, 1, _, rfl, rfl, hq, atI_nat (j := 1) rfl, _, rfl, spl12 (E := E0) (by omega) u hx (by omega) na fa fun H1 v1 t1 s1 u1 d1 o1 h1 f1 => ?_⟩
      have hq1 := old s1 hq
      refine ⟨_, rfl, q, _, 2, _, rfl, rfl, hq1, atI_nat (j := 2) rfl, _, rfl, spl12 (E := E0) (by omega) u1 (oldD s1 hy) (by omega) nb fb fun H2 v2 t2 s2 u2 d2 o2 h2 f2 => ?_⟩
      have a2 := s1.trans s2
      obtain ⟨x1, y1, z1, ep1, _⟩ := id u1
      have d12 : Dp K H2 v1 t1.d := dp_same (s2.trans hide_same) (tm_hide ep1 d1)
      refine ⟨(by decide : 3 ≤ sizeLine), fun T nT => ?_⟩
      have q3 := same_upd (o := .tup [.str s, v1, v2]) nT
      have u3 := u2.put (o := .tup [.str s, v1, v2]) (u2.ne nT)
      have hT : (L2.upd H2 T (.tup [.str s, v1, v2])) T = some (.tup [.str s, v1, v2]) := upd_same
      generalize L2.upd H2 T (.tup [.str s, v1, v2]) = H3 at q3 u3 hT ⊢
      have a3 := a2.trans (hide_mono q3)
      refine ⟨_, rfl, _, rfl, q, _, rfl, old a3 hq, (fun z => absurd z.1 (show ¬ HT.sIx 3 0 (some 3) = 0 by decide)), fun T2 nT2 => ?_⟩
      rw [show cutV [.str s, x, y] (some 3) none = [] from rfl]
      have q4 := same_upd (o := .tup []) nT2
      have u4 := u3.put (o := .tup []) (u3.ne nT2)
      have hT2 : (L2.upd H3 T2 (.tup [])) T2 = some (.tup []) := upd_same
      have hT := q4 _ _ hT
      generalize L2.upd H3 T2 (.tup []) = H4 at q4 u4 hT2 hT ⊢
      have a4 := a3.trans (hide_mono q4)
      refine ⟨T, T2, _, [], rfl, rfl, SqT.of hT, SqT.of hT2, by simp, (show 3 + 0 ≤ sizeLine by decide), fun _ => ?_, fun z => (z rfl).elim⟩
      refine k _ _ (.two s t1 t2) a4 (u4.le (by omega)) (.tup (SqT.of hT) (.cons (.str _) (.cons (dp_same (q3.trans q4) d12) (.cons (dp_same (q3.trans q4) d2) .nil)))) ?_ ?_ ⟨f1, f2⟩
      · show (isOp s && (t1.ok && t2.ok)) = false
        rw [o1, Bool.false_and, Bool.and_false]
      · show 1 + max t1.ht t2.ht ≤ 13
        omega
    | three s a b c' =>
      obtain ⟨q, x, y, z, rfl, hq, hx, hy, hz⟩ := pc_four hd
      have hab : 1 + max a.ht (max b.ht c'.ht) ≤ 11 := hh
      obtain ⟨_, na, nb, nc⟩ := nice
      obtain ⟨fa, fb, fc⟩ := fine
      refine ⟨_, rfl, q, _, rfl, .inr hq, _, _, rfl, rfl, _, rfl, if_no rfl ?_⟩
      refine ⟨_, rfl, q, _, 0, _, rfl, rfl, hq, at0, ?_⟩
      refine ⟨_, rfl, q, _, 1, _, rfl, rfl, hq, atI_nat (j := 1) rfl, _, rfl, spl12 (E := E0) (by omega) u hx (by omega) na fa fun H1 v1 t1 s1 u1 d1 o1 h1 f1 => ?_⟩
      have hq1 := old s1 hq
      refine ⟨_, rfl, q, _, 2, _, rfl, rfl, hq1, atI_nat (j := 2) rfl, _, rfl, spl12 (E := E0) (by omega) u1 (oldD s1 hy) (by omega) nb fb fun H2 v2 t2 s2 u2 d2 o2 h2 f2 => ?_⟩
      have a2 := s1.trans s2
      obtain ⟨x1, y1, z1, ep1, _⟩ := id u1
      have d12 : Dp K H2 v1 t1.d := dp_same (s2.trans hide_same) (tm_hide ep1 d1)
      refine ⟨(by decide : 3 ≤ sizeLine), fun T nT => ?_⟩
      have q3 := same_upd (o := .tup [.str s, v1, v2]) nT
      have u3 := u2.put (o := .tup [.str s, v1, v2]) (u2.ne nT)
      have hT : (L2.upd H2 T (.tup [.str s, v1, v2])) T = some (.tup [.str s, v1, v2]) := upd_same
      generalize L2.upd H2 T (.tup [.str s, v1, v2]) = H3 at q3 u3 hT ⊢
      have a3 := a2.trans (hide_mono q3)
      refine ⟨_, rfl, _, rfl, q, _, rfl, old a3 hq, (fun z => absurd z.1 (show ¬ HT.sIx 4 0 (some 3) = 0 by decide)), fun T2 nT2 => ?_⟩
      rw [show cutV [.str s, x, y, z] (some 3) none = [z] from rfl]
      have q4 := same_upd (o := .tup [z]) nT2
      have u4 := u3.put (o := .tup [z]) (u3.ne nT2)
      have hT2 : (L2.upd H3 T2 (.tup [z])) T2 = some (.tup [z]) := upd_same
      have hT := q4 _ _ hT
      generalize L2.upd H3 T2 (.tup [z]) = H4 at q4 u4 hT2 hT ⊢
      have a4 := a3.trans (hide_mono q4)
      refine ⟨T, T2, _, [z], rfl, rfl, SqT.of hT, SqT.of hT2, by simp, (show 3 + 1 ≤ sizeLine by decide), fun e => (by cases e), fun _ T3 nT3 => ?_⟩
      have q5 := same_upd (o := .tup ([.str s, v1, v2] ++ [z])) nT3
      have dz : Dp K (L2.upd H4 T3 (.tup ([.str s, v1, v2] ++ [z]))) z c'.tm.d := by
        rw [tm_d]
        exact dp_same q5 (oldD a4 hz)
      refine k _ _ (.three s t1 t2 c'.tm) (a4.trans (hide_mono q5)) ((u4.put (u4.ne nT3)).le (by omega)) (.tup (SqT.of upd_same) (.cons (.str _) (.cons (dp_same ((q3.trans q4).trans q5) d12) (.cons (dp_same ((q3.trans q4).trans q5) d2) (.cons dz .nil))))) ?_ ?_ ⟨f1, f2, tm_fine fc⟩
      · show ((s == "choose") && (t1.ok && (t2.ok && c'.tm.ok))) = false
        rw [o1, Bool.false_and, Bool.and_false]
      · show 1 + max t1.ht (max t2.ht c'.tm.ht) ≤ 13
        rw [tm_ht]
        omega
end
end Qb
end PySem
namespace PySem
namespace Qb
open PySem.W PySem.Calls PyProof.Rows L2
/-! # _law_refusal -/
def spRf (K : Frag) : Sp := fun vs H Q _ => ∃ (v : V) (t : Tm) (i : Int), vs = [v, .int i] ∧ Dp K H v t.d ∧ t.ht ≤ 14 ∧ t.fine ∧ t.ok = false ∧ ∀ H' u, Same H H' → Dp K H' u (.tuple [.str "InvalidTree", t.d]) → Q u H'
section
variable {P : Program} {w : World} {K : Frag} {mg : Str → Option Value} {base : Heap}
abbrev sRf : Stmt := top 73
abbrev nRf : List Str := ["_law_node", "_law_way", "_law_caught", "e"]
theorem scRf : FnScope nRf ["_law_node", "_law_way"] (defScope sRf) := ⟨rfl, rfl, rfl, by decide +kernel, rfl, by decide +kernel, by decide +kernel⟩
theorem has_Rf {f : Addr} {fd : FuncData} {fI : Addr} (EGi : EG K fI) {CT : Addr} {mT : List Value} (TT : EC K mg fI "InvalidTree" CT mT) {CS : Addr} {mS : List Value} (TS : EC K mg fI "ShellError" CS mS) (kTS : (Value.ref CT :: mT).contains (.ref CS) = true) (F : Fun K "_law_refusal" "_law_refusal" sRf f fd) (g : mg "_law_refusal" = some (.ref f)) (B : Blt mg) (hWo : HasX P w K mg base 20 "worked_out" ["tree", "names", "arguments"] (spWoT K CT)) (hNi : HasX P w K mg base 20 "names_in" ["tree"] (spCkT K CT)) (hSy : HasX P w K mg base 20 "is_steady" ["tree"] (spCkT K CT)) (hFd : HasX P w K mg base 20 "folded" ["tree"] (spCkT K CT)) (hLk : Has P w K mg base 1 "_law_kind" ["_law_caught"] (spLkT K CT)) :
    Has P w K mg base 21 "_law_refusal" ["_law_node", "_law_way"] (spRf K) := by
  obtain ⟨fWo, dWo, gWo, kWo, bWo, GWo⟩ := hWo
  obtain ⟨fNi, dNi, gNi, kNi, bNi, GNi⟩ := hNi
  obtain ⟨fSy, dSy, gSy, kSy, bSy, GSy⟩ := hSy
  obtain ⟨fFd, dFd, gFd, kFd, bFd, GFd⟩ := hFd
  obtain ⟨fLk, dLk, gLk, kLk, bLk, GLk⟩ := hLk
  refine has_of F g (F.binds (ps := ["_law_node", "_law_way"]) fun _ _ _ _ _ _ us hl => match us, hl with | [_, _], _ => rfl) (F.ok scRf (fun vs H Q E h => ?_) (fun cdv A outer s H vs Q E hr h => ?_))
  · obtain ⟨v, t, i, rfl, _⟩ := h
    rfl
  · refine ⟨_, (pss_cons (ps_set (i := 2) scRf.nd rfl (.inl rfl) pe_non)
        (pss_cons (ps_try_keep (i := 3) rfl rfl rfl scRf.nd rfl rfl ⟨rfl, by decide, .inl TS.gC⟩
          (fun W pn xe tk _ => (pss_one (ps_if (pt_cmpR op_eq (pv 1) pe_int (nomark _)) (pss_one (ps_expr (pe_callS GWo (hr.mono (by decide)) rfl gWo kWo bWo (fun σ => passAt tk σ) (by exact (pa_cons (pv 0) (pa_cons pe_dnewK (pa_cons (pe_lst pa_nil) pa_nil))))))) (pss_one (ps_if (pt_cmpR op_eq (pv 1) pe_int (nomark _)) (pss_one (ps_expr (pe_callS GNi (hr.mono (by decide)) rfl gNi kNi bNi (fun σ => passAt tk σ) (by exact (pa_cons (pv 0) pa_nil))))) (pss_one (ps_if (pt_cmpR op_eq (pv 1) pe_int (nomark _)) (pss_one (ps_expr (pe_callS GSy (hr.mono (by decide)) rfl gSy kSy bSy (fun σ => passAt tk σ) (by exact (pa_cons (pv 0) pa_nil))))) (pss_one (ps_expr (pe_callS GFd (hr.mono (by decide)) rfl gFd kFd bFd (fun σ => passAt tk σ) (by exact (pa_cons (pv 0) pa_nil))))))))))))
          (fun a cls d pn => (pss_one (ps_set (i := 2) scRf.nd rfl (.inl rfl) (pv 3)))))
        (pss_cons (ps_if (pt_cmpR op_isN (pv 2) pe_non (nomark _)) (pss_one (ps_ret pe_non)) pss_nil)
        (pss_one (ps_ret (pe_tup (pa_cons (pe_call GLk (hr.mono (by decide)) rfl gLk kLk bLk .nil pass0 (pa_cons (pv 2) pa_nil)) (pa_cons (pe_errw (fI := fI) (pv 2)) pa_nil)))))))), ?_⟩
    obtain ⟨v, t, i, rfl, hd, hh, hf, e, k⟩ := h
    refine ⟨_, rfl, rfl, _, rfl, if_by (fun _ => ?_) (fun _ => ⟨_, rfl, rfl, _, rfl, if_by (fun _ => ?_) (fun _ => ⟨_, rfl, rfl, _, rfl, if_by (fun _ => ?_) (fun _ => ?_)⟩)⟩)⟩
    · refine ⟨_, rfl, fun Z nZ => ⟨(by decide : 0 ≤ sizeLine), fun G nG => ⟨v, t, Z, G, rfl, dp_same ((same_upd nZ).trans (same_upd nG)) hd, hh, hf, e, fun H1 u s1 hu d nd => ?_⟩⟩⟩
      replace s1 := ((same_upd nZ).trans (same_upd nG)).trans s1
      clear nZ nG
      refine ⟨TT.takes TS kTS, fun a na => ?_⟩
      have y1 : Same H1 (L2.upd H1 d (.xd [(("value" : Str), u)])) := same_upd nd
      have hx : (L2.upd H1 d (.xd [(("value" : Str), u)])) d = some (.xd [(("value" : Str), u)]) := upd_same
      have y2 := same_upd (o := ErO (.ref CT) (some d) a) na
      have he : ErrV (L2.upd (L2.upd H1 d (.xd [(("value" : Str), u)])) a (ErO (.ref CT) (some d) a)) a CT u := ⟨d, upd_same, y2 _ _ hx⟩
      generalize L2.upd (L2.upd H1 d (.xd [(("value" : Str), u)])) a (ErO (.ref CT) (some d) a) = H2 at y2 he ⊢
      have s2 := s1.trans (y1.trans y2)
      have hu2 := dp_same (y1.trans y2) hu
      refine ⟨_, rfl, _, rfl, rfl, _, rfl, if_no rfl ?_⟩
      refine ⟨_, rfl, a, u, rfl, he, fun H3 s3 => ⟨_, rfl, a, _, u, _, _, rfl, TT, he.same s3, (by decide : 2 ≤ sizeLine), fun T nT => ?_⟩⟩
      have s4 := same_upd (o := .tup [.str "InvalidTree", u]) nT
      exact k _ _ (s2.trans (s3.trans s4)) (.tup (SqT.of upd_same) (.cons (.str _) (.cons (dp_same (s3.trans s4) hu2) .nil)))
    · refine ⟨_, rfl, v, t, rfl, hd, hh, hf, e, fun H1 u s1 hu d nd => ?_⟩
      refine ⟨TT.takes TS kTS, fun a na => ?_⟩
      have y1 : Same H1 (L2.upd H1 d (.xd [(("value" : Str), u)])) := same_upd nd
      have hx : (L2.upd H1 d (.xd [(("value" : Str), u)])) d = some (.xd [(("value" : Str), u)]) := upd_same
      have y2 := same_upd (o := ErO (.ref CT) (some d) a) na
      have he : ErrV (L2.upd (L2.upd H1 d (.xd [(("value" : Str), u)])) a (ErO (.ref CT) (some d) a)) a CT u := ⟨d, upd_same, y2 _ _ hx⟩
      generalize L2.upd (L2.upd H1 d (.xd [(("value" : Str), u)])) a (ErO (.ref CT) (some d) a) = H2 at y2 he ⊢
      have s2 := s1.trans (y1.trans y2)
      have hu2 := dp_same (y1.trans y2) hu
      refine ⟨_, rfl, _, rfl, rfl, _, rfl, if_no rfl ?_⟩
      refine ⟨_, rfl, a, u, rfl, he, fun H3 s3 => ⟨_, rfl, a, _, u, _, _, rfl, TT, he.same s3, (by decide : 2 ≤ sizeLine), fun T nT => ?_⟩⟩
      have s4 := same_upd (o := .tup [.str "InvalidTree", u]) nT
      exact k _ _ (s2.trans (s3.trans s4)) (.tup (SqT.of upd_same) (.cons (.str _) (.cons (dp_same (s3.trans s4) hu2) .nil)))
    · refine ⟨_, rfl, v, t, rfl, hd, hh, hf, e, fun H1 u s1 hu d nd => ?_⟩
      refine ⟨TT.takes TS kTS, fun a na => ?_⟩
      have y1 : Same H1 (L2.upd H1 d (.xd [(("value" : Str), u)])) := same_upd nd
      have hx : (L2.upd H1 d (.xd [(("value" : Str), u)])) d = some (.xd [(("value" : Str), u)]) := upd_same
      have y2 := same_upd (o := ErO (.ref CT) (some d) a) na
      have he : ErrV (L2.upd (L2.upd H1 d (.xd [(("value" : Str), u)])) a (ErO (.ref CT) (some d) a)) a CT u := ⟨d, upd_same, y2 _ _ hx⟩
      generalize L2.upd (L2.upd H1 d (.xd [(("value" : Str), u)])) a (ErO (.ref CT) (some d) a) = H2 at y2 he ⊢
      have s2 := s1.trans (y1.trans y2)
      have hu2 := dp_same (y1.trans y2) hu
      refine ⟨_, rfl, _, rfl, rfl, _, rfl, if_no rfl ?_⟩
      refine ⟨_, rfl, a, u, rfl, he, fun H3 s3 => ⟨_, rfl, a, _, u, _, _, rfl, TT, he.same s3, (by decide : 2 ≤ sizeLine), fun T nT => ?_⟩⟩
      have s4 := same_upd (o := .tup [.str "InvalidTree", u]) nT
      exact k _ _ (s2.trans (s3.trans s4)) (.tup (SqT.of upd_same) (.cons (.str _) (.cons (dp_same (s3.trans s4) hu2) .nil)))
    · refine ⟨_, rfl, v, t, rfl, hd, hh, hf, e, fun H1 u s1 hu d nd => ?_⟩
      refine ⟨TT.takes TS kTS, fun a na => ?_⟩
      have y1 : Same H1 (L2.upd H1 d (.xd [(("value" : Str), u)])) := same_upd nd
      have hx : (L2.upd H1 d (.xd [(("value" : Str), u)])) d = some (.xd [(("value" : Str), u)]) := upd_same
      have y2 := same_upd (o := ErO (.ref CT) (some d) a) na
      have he : ErrV (L2.upd (L2.upd H1 d (.xd [(("value" : Str), u)])) a (ErO (.ref CT) (some d) a)) a CT u := ⟨d, upd_same, y2 _ _ hx⟩
      generalize L2.upd (L2.upd H1 d (.xd [(("value" : Str), u)])) a (ErO (.ref CT) (some d) a) = H2 at y2 he ⊢
      have s2 := s1.trans (y1.trans y2)
      have hu2 := dp_same (y1.trans y2) hu
      refine ⟨_, rfl, _, rfl, rfl, _, rfl, if_no rfl ?_⟩
      refine ⟨_, rfl, a, u, rfl, he, fun H3 s3 => ⟨_, rfl, a, _, u, _, _, rfl, TT, he.same s3, (by decide : 2 ≤ sizeLine), fun T nT => ?_⟩⟩
      have s4 := same_upd (o := .tup [.str "InvalidTree", u]) nT
      exact k _ _ (s2.trans (s3.trans s4)) (.tup (SqT.of upd_same) (.cons (.str _) (.cons (dp_same (s3.trans s4) hu2) .nil)))
end
end Qb
end PySem
namespace PySem
namespace Qb
open PySem.W PySem.Calls PyProof.Rows L2
/-! # _law_names_of -/
def leS (a b : Str) : Prop := Spec.ltCps b.cps.toList a.cps.toList = false
theorem leS_iff {a b : Str} : leS a b ↔ a.cps.toList ≤ b.cps.toList := by
  unfold leS
  rw [ltCps_eq, decide_eq_false_iff_not]
  exact List.not_lt
theorem leS_trans {a b c : Str} (h : leS a b) (g : leS b c) : leS a c := leS_iff.mpr (List.le_trans (leS_iff.mp h) (leS_iff.mp g))
theorem leS_anti {a b : Str} (h : leS a b) (g : leS b a) : a = b := by
  have e : cs a = cs b := List.le_antisymm (leS_iff.mp h) (leS_iff.mp g)
  rw [← st_cs a, e, st_cs]
theorem rising_pw : ∀ (l : List Str) (p : Str), risingS p l = true → (p :: l).Pairwise leS
  | [], p, _ => by simp
  | x :: r, p, h => by
    obtain ⟨h1, h2⟩ := Bool.and_eq_true_iff.mp (show (!Spec.ltCps x.cps.toList p.cps.toList && risingS x r) = true from h)
    have px : leS p x := by
      unfold leS
      simpa using h1
    have ih := rising_pw r x h2
    refine List.pairwise_cons.mpr ⟨fun y m => ?_, ih⟩
    rcases List.mem_cons.mp m with rfl | m
    · exact px
    · exact leS_trans px ((List.pairwise_cons.mp ih).1 y m)
theorem sorted_pw : ∀ {l : List Str}, sortedS l = true → l.Pairwise leS
  | [], _ => .nil
  | x :: r, h => rising_pw r x h
/-- two rows in order of the same texts -/
theorem sorted_eq {l m : List Str} (p : l.Perm m) (hl : sortedS l = true) (hm : sortedS m = true) : l = m :=
  List.Perm.eq_of_pairwise (fun a b _ _ h g => leS_anti h g) (sorted_pw hl) (sorted_pw hm) p
theorem withTx_nodup {l : List Str} {k : Str} (h : l.Nodup) : (withTx l k).Nodup := by
  unfold withTx
  split
  · exact h
  · rename_i n
    exact List.nodup_cons.mpr ⟨n, h⟩
theorem withAll_nodup : ∀ {r l : List Str}, l.Nodup → (withAll l r).Nodup
  | [], l, h => h
  | k :: r, l, h => withAll_nodup (r := r) (withTx_nodup h)
theorem all_perm {l r : List Str} (h : l.Nodup) (m : ∀ x, x ∈ l ↔ x ∈ r) : l.Perm (withAll [] r) :=
  (List.perm_ext_iff_of_nodup h (withAll_nodup .nil)).mpr fun x => by
    rw [withAll_mem, m]
    simp
theorem strs_flat : ∀ l : List Str, (l.map V.str).all flatV = true
  | [] => rfl
  | x :: l => by
    rw [List.map_cons, List.all_cons, strs_flat l]
    rfl
/-- those that are new -/
def newS (acc ys : List Str) : List Str := ys.filter fun w => !decide (w ∈ acc)
theorem newS_mem {acc ys : List Str} {x : Str} : x ∈ acc ++ newS acc ys ↔ x ∈ acc ∨ x ∈ ys := by
  unfold newS
  rw [List.mem_append, List.mem_filter]
  by_cases h : x ∈ acc
  · simp [h]
  · simp [h]
theorem newS_nodup {acc ys : List Str} (h : acc.Nodup) (g : ys.Nodup) : (acc ++ newS acc ys).Nodup := by
  refine List.nodup_append.mpr ⟨h, List.Pairwise.filter _ g, fun a ma b mb e => ?_⟩
  subst e
  have := (List.mem_filter.mp mb).2
  simp [ma] at this
theorem newS_len (acc ys : List Str) : (newS acc ys).length ≤ ys.length := List.length_filter_le _ _
theorem newS_snoc {acc ys : List Str} {j : Nat} {w : Str} (h : ys[j]? = some w) : newS acc (ys.take (j + 1)) = newS acc (ys.take j) ++ (if w ∈ acc then [] else [w]) := by
  unfold newS
  rw [take_snoc h, List.filter_append]
  congr 1
  by_cases m : w ∈ acc
  · simp [m]
  · simp [m]
theorem nms_snoc {ts : List Sm} {i : Nat} {u : Sm} (h : ts[i]? = some u) : nmsAll (ts.take (i + 1)) = nmsAll (ts.take i) ++ u.nms := by
  unfold nmsAll
  rw [take_snoc h, List.map_append, List.flatten_append]
  simp
theorem nms_take {ts : List Sm} (i : Nat) : (nmsAll (ts.take i)).length ≤ (nmsAll ts).length := by
  have e : nmsAll ts = nmsAll (ts.take i) ++ nmsAll (ts.drop i) := by
    unfold nmsAll
    rw [← List.flatten_append, ← List.map_append, List.take_append_drop]
  rw [e, List.length_append]
  omega
def spNf (K : Frag) : Nat → Sp
  | 0 => fun _ _ _ _ => False
  | n + 1 => fun vs H Q _ => ∃ (v : V) (t : Sm), vs = [v] ∧ Dp K H v t.d ∧ t.ht ≤ n ∧ t.nice ∧ t.fine ∧ t.nms.length < 64 ∧ ∀ H' D ys, Same H H' → H D = none → ys.Perm (withAll [] t.nms) → sortedS ys = true → H' D = some (.lst (ys.map V.str)) → Q (.ref D) H'
section
variable {P : Program} {w : World} {K : Frag} {mg : Str → Option Value} {base : Heap}
abbrev sNf : Stmt := top 74
abbrev nNf : List Str := ["_law_node", "_law_found", "_law_part", "_law_word"]
theorem scNf : FnScope nNf ["_law_node"] (defScope sNf) := ⟨rfl, rfl, rfl, by decide +kernel, rfl, by decide +kernel, by decide +kernel⟩
theorem ok_Nf {f : Addr} {fd : FuncData} (F : Fun K "_law_names_of" "_law_names_of" sNf f fd) (gNf : mg "_law_names_of" = some (.ref f)) (bNf : Binds K fd ["_law_node"] []) (B2 : BltS mg) :
    ∀ n, FnOk P w K mg base CX0 (n + 1) f fd ["_law_node"] (spNf K n)
  | 0 => F.ok scNf (fun vs H Q E h => h.elim) (fun cdv A outer s H vs Q E hr h => h.elim)
  | n + 1 => by
    have GNf := ok_Nf F gNf bNf B2 n
    have kNf := F.kp
    refine F.ok scNf (fun vs H Q E h => ?_) (fun cdv A outer s H vs Q E hr h => ?_)
    · obtain ⟨v, t, rfl, _⟩ := h
      rfl
    · refine ⟨_, (pss_cons (ps_if (pt_cmpR op_eq (pe_ix ix_tup (pv 0) pe_int (fun _ _ => rfl)) pe_str (nomark _)) (pss_one (ps_ret (pe_lst pa_nil))) pss_nil)
        (pss_cons (ps_if (pt_cmpR op_eq (pe_ix ix_tup (pv 0) pe_int (fun _ _ => rfl)) pe_str (nomark _)) (pss_one (ps_ret (pe_lst (pa_cons (pe_ix ix_tup (pv 0) pe_int (fun _ _ => rfl)) pa_nil)))) pss_nil)
        (pss_cons (ps_set (i := 1) scNf.nd rfl (.inr rfl) (pe_lst pa_nil))
        (pss_cons (ps_for PassesOwn.never rfl (pi_tup (pe_slice sl_tup (pv 0) (po_some pe_int) po_none)) (pg_name (i := 2) scNf.nd rfl (.inl rfl))
          (pss_one (ps_set (i := 1) scNf.nd rfl (.inr rfl) (pe_op op_cat (pv 1) (pe_lc (own := [("_law_word", 3)]) (g := gName 3) (tt := tTest (tOp (rIn K true) (tVar 3) (tVar 1))) rfl scNf.nd (pi_list (pe_call GNf hr rfl gNf kNf bNf .nil pass0 (pa_cons (pv 2) pa_nil))) (blkOk_by (N := nNf) (sc := defScope sNf) (by decide +kernel)) (fun _ _ _ _ _ => pg_name (i := 3) scNf.nd rfl (.inl rfl)) (fun _ _ _ _ _ => pts_one (pt_cmpR op_notIn_seq (pv 3) (pv 1) (by rfl))) (fun _ _ _ _ _ => (pv 3)))))))
        (pss_one (ps_ret (pe_callB cr_sortedS (by rfl) B2.sorted (by decide +kernel) (pa_cons (pv 1) pa_nil)))))))), ?_⟩
      obtain ⟨v, t, rfl, hd, hh, nice, fine, few, k⟩ := h
      have kid : ∀ {u : Sm} {x : V} {H1 : Hp} {Q' : VK}, u.ht + 1 ≤ n → u.nice → u.fine → u.nms.length < 64 → Dp K H1 x u.d → (∀ H' D ys, Same H1 H' → H1 D = none → ys.Perm (withAll [] u.nms) → sortedS ys = true → H' D = some (.lst (ys.map V.str)) → Q' (.ref D) H') → spNf K n ([x] ++ []) H1 Q' E0 := by
        intro u x H1 Q' a1 a2 a3 a4 a5 a6
        obtain ⟨m, rfl⟩ : ∃ m, n = m + 1 := ⟨n - 1, by omega⟩
        exact ⟨x, u, rfl, a5, by omega, a2, a3, a4, a6⟩
      by_cases leaf : t.kids = []
      · cases t with
        | one s a => cases leaf
        | two s a b => cases leaf
        | three s a b c => cases leaf
        | num i =>
          obtain ⟨p, rfl, hq⟩ := dp_num hd
          exact ⟨_, rfl, p, _, 0, _, rfl, rfl, hq, at0, rfl, _, rfl, if_yes rfl ⟨(by decide : 0 ≤ sizeLine), fun D nD => k _ D [] (same_upd nD) nD (.refl _) rfl upd_same⟩⟩
        | of x =>
          obtain ⟨p, rfl, hq⟩ := dp_of hd
          refine ⟨_, rfl, p, _, 0, _, rfl, rfl, hq, at0, rfl, _, rfl, if_no rfl ?_⟩
          have px : [x].Perm (withAll [] (Sm.of x).nms) := all_perm (by simp) fun y => Iff.rfl
          exact ⟨_, rfl, p, _, 0, _, rfl, rfl, hq, at0, rfl, _, rfl, if_yes rfl ⟨_, rfl, p, _, 1, _, rfl, rfl, hq, atI_nat (j := 1) rfl, (by decide : 1 ≤ sizeLine), fun D nD => k _ D [x] (same_upd nD) nD px rfl upd_same⟩⟩
      · obtain ⟨s', e1, nn, kf, sub⟩ := kid_br nice fine leaf
        obtain ⟨p, xs, rfl, hq, all⟩ : ∃ p xs, v = .ref p ∧ SqT K H p (.str s' :: xs) ∧ DpAll K H xs (t.kids.map Sm.d) := by
          rw [e1] at hd
          obtain ⟨p, xs, rfl, hq, all⟩ := dp_tup hd
          cases all with
          | cons h1 t1 =>
            obtain rfl := dp_str h1
            exact ⟨p, _, rfl, hq, t1⟩
        have lx : xs.length = t.kids.length := by rw [dpLen all, List.length_map]
        have ek := (nms_kids leaf).symm
        refine ⟨_, rfl, p, _, 0, _, rfl, rfl, hq, at0, rfl, _, rfl, if_no (s_ne nn.1) ?_⟩
        refine ⟨_, rfl, p, _, 0, _, rfl, rfl, hq, at0, rfl, _, rfl, if_no (s_ne nn.2) ?_⟩
        refine ⟨(by decide : 0 ≤ sizeLine), fun F0 nF0 => ?_⟩
        have s1 := same_upd (o := .lst []) nF0
        have hF0 : (L2.upd H F0 (.lst [])) F0 = some (.lst []) := upd_same
        generalize L2.upd H F0 (.lst []) = H1 at s1 hF0 ⊢
        refine ⟨_, rfl, _, rfl, p, _, rfl, sqT_same s1 hq, ?_, fun T2 nT2 => ?_⟩
        · rintro ⟨z, _⟩
          exact absurd z (by rw [cut1_ix (by rw [List.length_cons]; omega)]; decide)
        have ec : cutV (.str s' :: xs) (some 1) none = xs := (cut_from1 (by rw [List.length_cons]; omega)).trans rfl
        rw [ec]
        have q2 := same_upd (o := .tup xs) nT2
        have s2 := s1.trans q2
        have hT2 : (L2.upd H1 T2 (.tup xs)) T2 = some (.tup xs) := upd_same
        have hF0 := q2 _ _ hF0
        generalize L2.upd H1 T2 (.tup xs) = H2 at s2 hT2 hF0 ⊢
        refine ⟨T2, rfl, ⟨_, SqT.of hT2⟩, ?_⟩
        refine for_it (walk_tup (xs := xs)) (fun i σ H' => ∃ (Fi : Addr) (x2 x3 : Option V) (acc : List Str), σ = [some (.ref p), some (.ref Fi), x2, x3] ∧ Same H2 H' ∧ H' Fi = some (.lst (acc.map V.str)) ∧ acc.Nodup ∧ (∀ x, x ∈ acc ↔ x ∈ nmsAll (t.kids.take i)) ∧ acc.length ≤ (nmsAll (t.kids.take i)).length) ⟨F0, _, _, [], rfl, Same.refl _, hF0, .nil, fun x => by simp [nmsAll], Nat.zero_le _⟩ (fun i σ H' hi e => by
          obtain ⟨_, _, _, _, _, s, _⟩ := e
          exact sqT_same s (SqT.of hT2)) (fun i x σ H' H3 hi e y => ?_) (fun σ H9 e => ?_)
        · obtain ⟨Fi, x2, x3, acc, rfl, s3, hFi, nd, mem, lacc⟩ := e
          obtain ⟨rfl, hx⟩ := y
          obtain ⟨d, hdi, dp⟩ := dpAt' all hx
          obtain ⟨u, hu, rfl⟩ : ∃ u, t.kids[i]? = some u ∧ u.d = d := by
            rw [List.getElem?_map] at hdi
            cases z : t.kids[i]? with
            | none => rw [z] at hdi; cases hdi
            | some c => rw [z] at hdi; exact ⟨c, rfl, Option.some.inj hdi⟩
          obtain ⟨u1, u2, u3⟩ := sub u (List.mem_of_getElem? hu)
          have esn := nms_snoc hu
          have ltk := nms_take (ts := t.kids) (i + 1)
          rw [ek, esn, List.length_append] at ltk
          refine ⟨_, rfl, _, rfl, kid (Nat.le_trans u1 hh) u2 u3 (by omega) (dp_same (s2.trans s3) dp) fun H4 C ys s4 nC py sy hC => ?_⟩
          have lys : ys.length ≤ u.nms.length := by
            rw [py.length_eq]
            have := withAll_len [] u.nms
            rw [List.length_nil, Nat.zero_add] at this
            exact this
          have ndy : ys.Nodup := py.nodup_iff.mpr (withAll_nodup .nil)
          have hFi4 := s4 _ _ hFi
          refine ⟨C, rfl, ⟨_, SqL.of hC⟩, fun E nE => lc_it (walk_list (xs := ys.map V.str)) (fun j H' => Same H4 H' ∧ H' E = some (.lst ((newS acc (ys.take j)).map V.str))) ⟨same_upd nE, upd_same⟩ (fun j H' _ e => e.1.seq (SqL.of hC)) (fun j x H' H5 hj e y => ?_) (fun H5 e => ?_)⟩
          · obtain ⟨rfl, hx2⟩ := y
            obtain ⟨s5, hE⟩ := e
            obtain ⟨w, hw, rfl⟩ : ∃ w, ys[j]? = some w ∧ V.str w = x := by
              rw [List.getElem?_map] at hx2
              cases z : ys[j]? with
              | none => rw [z] at hx2; cases hx2
              | some c => rw [z] at hx2; exact ⟨c, rfl, Option.some.inj hx2⟩
            have es := newS_snoc (acc := acc) hw
            refine ⟨rfl, _, rfl, _, rfl, Fi, _, rfl, .inl (SqL.of (s5 _ _ hFi4)), rfl, strs_flat acc, _, rfl, ?_⟩
            rw [if_pos rfl, inV_iff]
            by_cases m : w ∈ acc
            · rw [decide_eq_true m]
              rw [if_pos m, List.append_nil] at es
              exact if_no rfl ⟨s5, by rw [es]; exact hE⟩
            · rw [decide_eq_false m]
              rw [if_neg m] at es
              refine if_yes rfl ⟨_, rfl, _, hE, ?_, same_upd2 s5 nE, ?_⟩
              · rw [List.length_map]
                have a1 := newS_len acc (ys.take j)
                rw [List.length_take] at a1
                exact Nat.lt_of_le_of_lt (by omega : _ ≤ 64) (by decide)
              · rw [upd_same, es, List.map_append]
                rfl
          obtain ⟨s5, hE⟩ := e
          rw [List.length_map, List.take_of_length_le (Nat.le_refl _)] at hE
          have ln := newS_len acc ys
          refine ⟨Fi, E, _, _, rfl, rfl, s5 _ _ hFi4, hE, ?_, fun S nS => ?_⟩
          · rw [List.length_map, List.length_map]
            exact Nat.le_trans (by omega : _ ≤ 128) (by decide)
          have q6 := same_upd (o := .lst (acc.map V.str ++ (newS acc ys).map V.str)) nS
          refine ⟨S, _, _, acc ++ newS acc ys, rfl, (s3.trans s4).trans (s5.trans q6), by rw [upd_same, List.map_append], newS_nodup nd ndy, fun x => ?_, ?_⟩
          · rw [newS_mem, esn, List.mem_append, mem, py.mem_iff, withAll_mem]
            simp
          · rw [esn, List.length_append, List.length_append]
            omega
        · obtain ⟨Fi, x2, x3, acc, rfl, s3, hFi, nd, mem, lacc⟩ := e
          rw [lx, List.take_of_length_le (Nat.le_refl _), ek] at mem lacc
          refine ⟨_, rfl, Fi, acc, rfl, SqL.of hFi, by omega, fun ys D py sy nD => ?_⟩
          have q4 := same_upd (o := .lst (ys.map V.str)) nD
          have sD := s2.trans (s3.trans q4)
          refine k _ D ys sD ?_ (py.trans (all_perm nd mem)) sy upd_same
          exact same_none (s2.trans s3) nD
end
end Qb
end PySem
namespace PySem
namespace Qb
open PySem.W PySem.Calls PyProof.Rows L2
/-! # a def that may raise, its one argument told by its name -/
section
variable {X : Cx} {CX : CXT} {k : Nat} {f : Addr} {fd : FuncData} {ps ks : List Str} {sp : Sp} {x : Str} {p pos : Pos} {E : L2.St → XK} {kws : List Keyword} {tk : TA} {g : List Value → List Value → List Value} {gV : List V → List V → List V}
theorem pe_callKwS (F : FnOk X.prog X.w X.K X.mg X.base CX k f fd ps sp) (hr : Room k X.A) (hg : Gl X x) (hm : X.mg x = some (.ref f)) (hk : PySem.W.keepIn X.K (.ref f) = true) (hb : KBinds X.K fd ps ks g gV) (hx : ∀ σ, PassesAt CX X σ (E σ))
    (hkw : PK X kws tk) (hall : (backToKw pos (keywordEach kws X.env)).all (·.1.isSome) = true := by rfl) (hks : (backToKw pos (keywordEach kws X.env)).filterMap (·.1) = ks := by rfl)
    (hdb : (x == ("__debug__" : Str)) = false := by decide)
    (hpl : ((backTo pos (starEach [] X.env)).any (·.1) || (backToKw pos (keywordEach kws X.env)).any (·.1.isNone)) = false := by rfl) :
    PE X (.Call (.Name x p) [] kws pos) (fun σ H Q => tk σ H fun zs H2 => sp (gV [] zs) H2 Q (E σ)) := by
  refine ⟨fun pins s σ H Q I h => ?_⟩
  refine wpAny_Call_Name_kw (ld_glob I hg hm ?_ hdb)
  refine PySem.W.callWith_KW0 (h₀ := X.base) I.ok.mod.kin hk hall (thn (hkw.run pos pins s σ H _ I h) fun ws s2 ⟨zs, H2, I2, rz, q2⟩ => ⟨I2.kIn, ?_⟩) hpl
  rw [hks]
  have r2 := hb.rel .nil rz
  have hl : (g [] ws).length = ps.length := by rw [← r2.length]; exact F.len _ _ _ _ q2
  refine wpAny_call (codeAny_mono (F.run X.A X.stack s2 H2 { pos := [], kw := ks.zip ws } (g [] ws) (gV [] zs) Q (E σ) hr I2.env0 (hb.to s2 [] ws I2.kIn hl) r2 q2) fun r s' hq => ?_)
  cases r with
  | error e => exact hx σ pins H2 s2 e s' I2 hq
  | ok fl =>
    cases fl with
    | ret u => exact I2.after hq
    | next => exact hq.elim
    | brk => exact hq.elim
    | cont => exact hq.elim
end
/-- a def that may raise, called in order or by the names of its arguments -/
def HasXK (P : Program) (w : World) (K : Frag) (mg : Str → Option Value) (base : Heap) (k : Nat) (x : Str) (ps : List Str) (sp : Sp) : Prop :=
  ∃ (f : Addr) (fd : FuncData), mg x = some (.ref f) ∧ PySem.W.keepIn K (.ref f) = true ∧ Binds K fd ps [] ∧ KBinds K fd ps ps (fun us ws => us ++ ws) (fun vs zs => vs ++ zs) ∧ FnOk P w K mg base (L2.CX P w) k f fd ps sp
/-! # the law -/
def Rs.kd : Rs → Str
  | .ok _ => "number"
  | .er e => e.k
def Rs.pl : Rs → PyData
  | .ok i => .int i
  | .er e => e.d
theorem rs_d : ∀ r : Rs, r.d = .tuple [.str r.kd, r.pl]
  | .ok _ => rfl
  | .er _ => rfl
theorem rs_read {K : Frag} {H : Hp} {v : V} {r : Rs} (h : Dp K H v r.d) : ∃ F x, v = .ref F ∧ SqT K H F [.str r.kd, x] ∧ Dp K H x r.pl := by
  rw [rs_d] at h
  obtain ⟨F, xs, rfl, hq, all⟩ := dp_tup h
  cases all with
  | cons h1 t1 =>
    obtain rfl := dp_str h1
    cases t1 with
    | cons h2 t2 =>
      cases t2
      exact ⟨F, _, rfl, hq, h2⟩
def Rs.isOk : Rs → Bool
  | .ok _ => true
  | .er _ => false
theorem kd_ok (r : Rs) : decide (V.str r.kd = V.str "number") = r.isOk := by
  match r with
  | .ok _ => exact decide_eq_true rfl
  | .er (.noI _) => exact decide_eq_false (show V.str ("NoInteger" : Str) ≠ V.str "number" by decide +kernel)
  | .er (.great _) => exact decide_eq_false (show V.str ("TooGreat" : Str) ≠ V.str "number" by decide +kernel)
  | .er (.zero _) => exact decide_eq_false (show V.str ("DividedByZero" : Str) ≠ V.str "number" by decide +kernel)
theorem pl_bl (n : Nat) (x : Bool) : Pl n (.bool x) := by
  cases n with
  | zero => exact .inr (.inl ⟨x, rfl⟩)
  | succ n => exact .inl (.inr (.inl ⟨x, rfl⟩))
theorem hide_put2 {H : Hp} {a c : Addr} {o : HO} : Same (hide (hide H a) c) (hide (hide (L2.upd H c o) a) c) := fun d u h => by
  unfold hide at h ⊢
  by_cases e : d = c
  · rw [if_pos e] at h; cases h
  · rw [if_neg e] at h ⊢
    by_cases g : d = a
    · rw [if_pos g] at h; cases h
    · rw [if_neg g] at h ⊢
      rw [L2.upd_ne e]
      exact h
theorem pl_strs {n : Nat} {l : List Str} (h : l.length ≤ 1000) : Pl (n + 1) (.list (l.map PyData.str)) := .inr ⟨_, .inl rfl, by rw [List.length_map]; exact h, fun e m => by
  obtain ⟨x, _, rfl⟩ := List.mem_map.mp m
  exact pl_str n x⟩
def lawSp (K : Frag) : Sp := fun vs H Q _ => ∃ (a : Addr) (ns : List Int), vs = [.ref a] ∧ SqL K H a (ns.map V.int) ∧ ns.length ≤ 63 ∧ ∀ H', Q (.bl true) H'
section
variable {P : Program} {w : World} {K : Frag} {mg : Str → Option Value} {base : Heap}
abbrev sLw : Stmt := top 75
abbrev nLw : List Str := ["_law_script", "_law_purse_here", "_law_words_here", "_law_pool", "_law_at", "_law_bent", "_law_node", "_law_here", "_law_found", "_law_due", "_law_wrong", "_law_k"]
theorem scLw : FnScope nLw ["_law_script"] (defScope sLw) := ⟨rfl, rfl, rfl, by decide +kernel, rfl, by decide +kernel, by decide +kernel⟩
theorem ok_Lw {CT : Addr} {f : Addr} {fd : FuncData}  (F : Fun K "law" "law" sLw f fd) (B : Blt mg) (hPu : Has P w K mg base 1 "_law_purse" ["_law_script", "_law_at"] (spPu K)) (hWd : Has P w K mg base 2 "_law_words" ["_law_purse_here"] (spWd)) (hCo : Has P w K mg base 1 "_law_coin" ["_law_purse_here", "_law_many"] (spCo)) (hLs : Has P w K mg base 30 "_law_sum" ["_law_purse_here", "_law_pool", "_law_words_here", "_law_most"] (spLs K)) (hNf : Has P w K mg base 14 "_law_names_of" ["_law_node"] (spNf K 13)) (hNi : HasXK P w K mg base 21 "names_in" ["tree"] (spNi K CT)) (hSm : Has P w K mg base 18 "_law_same" ["_law_found", "_law_due"] (spSm K 17)) (hLv : Has P w K mg base 15 "_law_value" ["_law_node", "_law_book", "_law_given"] (spLv K 13)) (hSy : HasXK P w K mg base 36 "is_steady" ["tree"] (spSy K CT)) (hTc : Has P w K mg base 16 "_law_twice" ["_law_node", "_law_purse_here"] (spTc K)) (hSp : Has P w K mg base 15 "_law_spoiled" ["_law_node", "_law_purse_here"] (spSpl K 12)) (hRf : Has P w K mg base 21 "_law_refusal" ["_law_node", "_law_way"] (spRf K)) :
    FnOk P w K mg base CX0 37 f fd ["_law_script"] (lawSp K) := by
  obtain ⟨fPu, dPu, gPu, kPu, bPu, GPu⟩ := hPu
  obtain ⟨fWd, dWd, gWd, kWd, bWd, GWd⟩ := hWd
  obtain ⟨fCo, dCo, gCo, kCo, bCo, GCo⟩ := hCo
  obtain ⟨fLs, dLs, gLs, kLs, bLs, GLs⟩ := hLs
  obtain ⟨fNf, dNf, gNf, kNf, bNf, GNf⟩ := hNf
  obtain ⟨fNi, dNi, gNi, kNi, bNi, cNi, GNi⟩ := hNi
  obtain ⟨fSm, dSm, gSm, kSm, bSm, GSm⟩ := hSm
  obtain ⟨fLv, dLv, gLv, kLv, bLv, GLv⟩ := hLv
  obtain ⟨fSy, dSy, gSy, kSy, bSy, cSy, GSy⟩ := hSy
  obtain ⟨fTc, dTc, gTc, kTc, bTc, GTc⟩ := hTc
  obtain ⟨fSp, dSp, gSp, kSp, bSp, GSp⟩ := hSp
  obtain ⟨fRf, dRf, gRf, kRf, bRf, GRf⟩ := hRf
  refine F.ok scLw (fun vs H Q E h => ?_) (fun cdv A outer s H vs Q E hr h => ?_)
  · obtain ⟨a, ns, rfl, _⟩ := h
    rfl
  · refine ⟨_, (pss_cons (ps_set (i := 1) scLw.nd rfl (.inl rfl) (pe_call GPu (hr.mono (by decide)) rfl gPu kPu bPu .nil pass0 (pa_cons (pv 0) (pa_cons pe_int pa_nil))))
        (pss_cons (ps_set (i := 2) scLw.nd rfl (.inl rfl) (pe_ix ix_list (pe_lst (pa_cons (pe_lst pa_nil) (pa_cons (pe_call GWd (hr.mono (by decide)) rfl gWd kWd bWd .nil pass0 (pa_cons (pv 1) pa_nil)) pa_nil))) (pe_call GCo (hr.mono (by decide)) rfl gCo kCo bCo .nil pass0 (pa_cons (pv 1) (pa_cons pe_int pa_nil))) (fun _ _ => rfl)))
        (pss_cons (ps_set (i := 3) scLw.nd rfl (.inl rfl) (pe_lst pa_nil))
        (pss_cons (ps_for PassesOwn.never rfl (pi_range2 (by rfl) B.range (pa_cons pe_int (pa_cons (pe_callB (call_max2 rfl) (by rfl) B.max (by decide +kernel) (pa_cons pe_int (pa_cons (pe_callB (call_min2 rfl) (by rfl) B.min (by decide +kernel) (pa_cons pe_int (pa_cons (pe_callB call_len_seq (by rfl) B.len PySem.boot_len (pa_cons (pv 0) pa_nil)) pa_nil))) pa_nil))) pa_nil))) (pg_name (i := 4) scLw.nd rfl (.inl rfl))
          (pss_cons (ps_set (i := 1) scLw.nd rfl (.inl rfl) (pe_call GPu (hr.mono (by decide)) rfl gPu kPu bPu .nil pass0 (pa_cons (pv 0) (pa_cons (pv 4) pa_nil))))
          (pss_cons (ps_set (i := 5) scLw.nd rfl (.inl rfl) (pe_lst (pa_cons (pe_call GCo (hr.mono (by decide)) rfl gCo kCo bCo .nil pass0 (pa_cons (pv 1) (pa_cons pe_int pa_nil))) (pa_cons (pe_call GCo (hr.mono (by decide)) rfl gCo kCo bCo .nil pass0 (pa_cons (pv 1) (pa_cons pe_int pa_nil))) pa_nil))))
          (pss_cons (ps_expr (pe_bm PySem.F.plainAttrs_list PySem.F.slot_list_append PySem.F.type_list_append mt_append (pv 3) (pa_cons (pe_call GLs (hr.mono (by decide)) rfl gLs kLs bLs .nil pass0 (pa_cons (pv 1) (pa_cons (pv 3) (pa_cons (pv 2) (pa_cons pe_int pa_nil))))) pa_nil)))
          (pss_cons (ps_set (i := 6) scLw.nd rfl (.inl rfl) (pe_ix ix_list (pe_ix ix_list (pv 3) (pe_un un_neg pe_int) (fun _ _ => rfl)) pe_int (fun _ _ => rfl)))
          (pss_cons (ps_set (i := 7) scLw.nd rfl (.inl rfl) (pe_call GNf (hr.mono (by decide)) rfl gNf kNf bNf .nil pass0 (pa_cons (pv 6) pa_nil)))
          (pss_cons (ps_set (i := 8) scLw.nd rfl (.inl rfl) (pe_callKwS GNi (hr.mono (by decide)) rfl gNi kNi cNi (fun σ => passAt takes_no σ) (pk_cons (pv 6) pk_nil)))
          (pss_cons (ps_if (pt_not (pt_val (pe_call GSm (hr.mono (by decide)) rfl gSm kSm bSm .nil pass0 (pa_cons (pv 8) (pa_cons (pv 7) pa_nil))))) (pss_one (ps_ret pe_bl)) pss_nil)
          (pss_cons (ps_expr (pe_bm PySem.F.plainAttrs_list PySem.F.slot_list_append PySem.F.type_list_append mt_append (pv 8) (pa_cons pe_str pa_nil)))
          (pss_cons (ps_if (pt_not (pt_val (pe_call GSm (hr.mono (by decide)) rfl gSm kSm bSm .nil pass0 (pa_cons (pe_callS GNi (hr.mono (by decide)) rfl gNi kNi bNi (fun σ => passAt takes_no σ) (by exact (pa_cons (pv 6) pa_nil))) (pa_cons (pv 7) pa_nil))))) (pss_one (ps_ret pe_bl)) pss_nil)
          (pss_cons (ps_weak (ps_set (i := 9) scLw.nd rfl (.inl rfl) (pe_and (pe_cmpR (op_eqD hr.units) (pv 7) (pe_lst pa_nil) (nomark _)) (pe_one (pe_cmpR op_eq (pe_ix ix_tup (pe_call GLv (hr.mono (by decide)) rfl gLv kLv bLv .nil pass0 (pa_cons (pv 6) (pa_cons pe_dnewK (pa_cons (pe_lst pa_nil) pa_nil)))) pe_int (fun _ _ => rfl)) pe_str (nomark _))))))
          (pss_cons (ps_if (pt_not (pt_val (pe_call GSm (hr.mono (by decide)) rfl gSm kSm bSm .nil pass0 (pa_cons (pe_callKwS GSy (hr.mono (by decide)) rfl gSy kSy cSy (fun σ => passAt takes_no σ) (pk_cons (pv 6) pk_nil)) (pa_cons (pv 9) pa_nil))))) (pss_one (ps_ret pe_bl)) pss_nil)
          (pss_cons (ps_set (i := 10) scLw.nd rfl (.inl rfl) (pe_lst (pa_cons (pe_call GSp (hr.mono (by decide)) rfl gSp kSp bSp .nil pass0 (pa_cons (pv 6) (pa_cons (pv 1) pa_nil))) (pa_cons (pe_call GTc (hr.mono (by decide)) rfl gTc kTc bTc .nil pass0 (pa_cons (pv 6) (pa_cons (pv 1) pa_nil))) pa_nil))))
          (pss_one (ps_for PassesOwn.never rfl (pi_range1 (by rfl) B.range (pa_cons pe_int pa_nil)) (pg_name (i := 11) scLw.nd rfl (.inl rfl))
            (pss_one (ps_if (pt_not (pt_val (pe_call GSm (hr.mono (by decide)) rfl gSm kSm bSm .nil pass0 (pa_cons (pe_call GRf (hr.mono (by decide)) rfl gRf kRf bRf .nil pass0 (pa_cons (pe_ix ix_list (pv 10) (pv 11) (fun _ _ => rfl)) (pa_cons (pe_ix ix_list (pv 5) (pv 11) (fun _ _ => rfl)) pa_nil))) (pa_cons (pe_tup (pa_cons pe_str (pa_cons (pe_ix ix_list (pv 10) (pv 11) (fun _ _ => rfl)) pa_nil))) pa_nil))))) (pss_one (ps_ret pe_bl)) pss_nil)))))))))))))))))
        (pss_one (ps_ret pe_bl)))))), ?_⟩
    obtain ⟨a, ns, rfl, hq, hl, k⟩ := h
    refine ⟨_, rfl, a, ns, 0, rfl, hq, hl, fun H1 p t1 n1 u1 => ?_⟩
    -- the words
    refine ⟨(by decide : 0 ≤ sizeLine), fun E0' nE => ?_⟩
    have nEp := u1.ne nE
    have u2 := u1.put (o := .lst []) nEp
    have s2 := same_upd (o := .lst []) nE
    have hE2 : (L2.upd H1 E0' (.lst [])) E0' = some (.lst (([] : List Str).map V.str)) := upd_same
    generalize L2.upd H1 E0' (.lst []) = H2 at u2 s2 hE2 ⊢
    refine ⟨_, rfl, p, 0, rfl, by omega, u2, fun H3 W ws t3 u3 hW nW neW lw okw => ?_⟩
    have hE3 : H3 E0' = some (.lst (([] : List Str).map V.str)) := hide_same _ _ (t3 _ _ (hide_ne hE2 nEp))
    refine ⟨(by decide : 2 ≤ sizeLine), fun L nL => ?_⟩
    have nLp := u3.ne nL
    have u4 := u3.put (o := .lst [.ref E0', .ref W]) nLp
    have s4 := same_upd (o := .lst [.ref E0', .ref W]) nL
    have hL4 : (L2.upd H3 L (.lst [.ref E0', .ref W])) L = some (.lst [.ref E0', .ref W]) := upd_same
    have hE4 := s4 _ _ hE3
    have hW4 := s4 _ _ hW
    have t14 : Same (hide H1 p) (hide (L2.upd H3 L (.lst [.ref E0', .ref W])) p) := (hide_mono s2).trans (t3.trans (hide_mono s4))
    generalize L2.upd H3 L (.lst [.ref E0', .ref W]) = H4 at u4 s4 hL4 hE4 hW4 t14 ⊢
    refine ⟨_, rfl, p, 2, _, rfl, by decide, by decide, by omega, u4, fun H5 r5 hr5 u5 o5 => ?_⟩
    have hL5 := (o5 L nLp).trans hL4
    obtain ⟨WW, ws', hWW, hL0, lww, oww⟩ : ∃ (WW : Addr) (ws' : List Str), H5 WW = some (.lst (ws'.map V.str)) ∧ [V.ref E0', .ref W][r5]? = some (.ref WW) ∧ (ws' = [] ∨ ws'.length = 11) ∧ ∀ w ∈ ws', gw w := by
      rcases (by omega : r5 = 0 ∨ r5 = 1) with rfl | rfl
      · exact ⟨E0', [], (o5 E0' nEp).trans hE4, rfl, .inl rfl, fun w m => by cases m⟩
      · exact ⟨W, ws, (o5 W neW).trans hW4, rfl, .inr lw, okw⟩
    refine ⟨L, _, _, _, rfl, rfl, SqL.of hL5, atI_nat hL0, ?_⟩
    have s5 : Same H H5 := (hide_of t1 n1).trans ((t14.trans (offs o5)).trans hide_same)
    have hq5 := s5.seq hq
    clear u5 o5 hL5 hL0 u4 s4 hL4 hE4 hW4 t14 nLp nL hE3 u3 t3 hW nW neW lw okw u2 s2 hE2 nEp nE u1 t1 n1
    refine ⟨(by decide : 0 ≤ sizeLine), fun R nR => ?_⟩
    have t10 := same_upd (o := .lst []) nR
    have hR10 : (L2.upd H5 R (.lst [])) R = some (.lst []) := upd_same
    have hR10' : Same H5 (hide (L2.upd H5 R (.lst [])) R) := hide_of t10 nR
    generalize L2.upd H5 R (.lst []) = H10 at t10 hR10 hR10' ⊢
    refine ⟨_, rfl, a, _, rfl, .inl (t10.seq hq5), _, _, rfl, _, _, rfl, 1, _, rfl, ?_, ?_⟩
    · rw [List.length_map]
      refine ⟨by decide, by decide, ?_, ?_⟩
      · split <;> split <;> omega
      · split <;> split <;> omega
    generalize hm : (((if (if (((ns.map V.int).length : Nat) : Int) < 64 then (((ns.map V.int).length : Nat) : Int) else 64) > 2 then (if (((ns.map V.int).length : Nat) : Int) < 64 then (((ns.map V.int).length : Nat) : Int) else 64) else 2) - 1 : Int)).toNat = m
    have m63 : m ≤ 63 := by
      rw [← hm, List.length_map]
      split <;> split <;> omega
    refine for_range (lo := 1) (n := m) (fun i σ H' => (∃ x1 x4 x5 x6 x7 x8 x9 x10 x11 : Option V, σ = [some (.ref a), x1, some (.ref WW), some (.ref R), x4, x5, x6, x7, x8, x9, x10, x11]) ∧ Same (hide H10 R) (hide H' R) ∧
      ∃ (es : List En) (ys : List V), H' R = some (.lst ys) ∧ DpAll K (hide H' R) ys (es.map En.d) ∧ (∀ e ∈ es, e.good) ∧ es.length = i) ⟨⟨_, _, _, _, _, _, _, _, _, rfl⟩, Same.refl _, [], [], hR10, .nil, by simp, rfl⟩ (fun i σ H' hi e => ?_) (fun σ H' e => k _)
    obtain ⟨⟨x1, x4, x5, x6, x7, x8, x9, x10, x11, rfl⟩, t11, es, ys, hR, dall, eg, el⟩ := e
    have all5 : Same H5 H' := (hR10'.trans t11).trans hide_same
    refine ⟨_, rfl, _, rfl, a, ns, 1 + i, congrArg (fun z : Int => [V.ref a, V.int z]) (by omega), all5.seq hq5, hl, fun H12 p2 t12 n12 u12 => ?_⟩
    have nRp : R ≠ p2 := fun z => by rw [← z, hR] at n12; cases n12
    have nWp : WW ≠ p2 := fun z => by rw [← z, all5 _ _ hWW] at n12; cases n12
    have g12 : Same H' (hide H12 p2) := hide_of t12 n12
    -- bent
    refine ⟨_, rfl, p2, 4, 0, rfl, by decide, by decide, by omega, u12, fun Ha b0 hb0 ua oa => ?_⟩
    refine ⟨_, rfl, p2, 4, _, rfl, by decide, by decide, by omega, ua, fun Hb b1 hb1 ub ob => ?_⟩
    refine ⟨(by decide : 2 ≤ sizeLine), fun Bn nBn => ?_⟩
    have nBp := ub.ne nBn
    have uc := ub.put (o := .lst [.int ((b0 : Nat) : Int), .int ((b1 : Nat) : Int)]) nBp
    have qc := same_upd (o := .lst [.int ((b0 : Nat) : Int), .int ((b1 : Nat) : Int)]) nBn
    have hBc : (L2.upd Hb Bn (.lst [.int ((b0 : Nat) : Int), .int ((b1 : Nat) : Int)])) Bn = some (.lst [.int ((b0 : Nat) : Int), .int ((b1 : Nat) : Int)]) := upd_same
    have gc : Same H' (hide (L2.upd Hb Bn (.lst [.int ((b0 : Nat) : Int), .int ((b1 : Nat) : Int)])) p2) := g12.trans ((offs oa).trans ((offs ob).trans (hide_mono qc)))
    generalize L2.upd Hb Bn (.lst [.int ((b0 : Nat) : Int), .int ((b1 : Nat) : Int)]) = Hc at uc qc hBc gc ⊢
    have kc := gc.trans hide_same
    have nBR : Bn ≠ R := fun z => by
      have := ((hide_of t12 n12).trans ((offs oa).trans (offs ob))).trans hide_same
      rw [z, this _ _ hR] at nBn; cases nBn
    -- the sum
    refine ⟨_, rfl, .inl ⟨rfl, _, SqL.of (kc _ _ hR)⟩, _, rfl, _, rfl, _, rfl, p2, R, WW, 2, ws', es, ys, 11, rfl, by decide, by omega, uc.le (by omega), kc _ _ (all5 _ _ hWW), nWp, lww, oww, kc _ _ hR, nRp, dpAll_same (hide_mono gc) dall, eg, by omega, fun H13 v e t13 u13 dv ge => ?_⟩
    have g13 : Same H' (hide H13 p2) := gc.trans t13
    have hR13 := (g13.trans hide_same) _ _ hR
    have hB13 : H13 Bn = some (.lst [.int ((b0 : Nat) : Int), .int ((b1 : Nat) : Int)]) := hide_same _ _ (t13 _ _ (hide_ne hBc nBp))
    have lys : ys.length = es.length := by rw [dpLen dall, List.length_map]
    refine ⟨R, ys, v, rfl, rfl, hR13, ?_, ?_⟩
    · exact Nat.lt_of_le_of_lt (by omega : ys.length ≤ 64) (by decide)
    have hR14 : (L2.upd H13 R (.lst (ys ++ [v]))) R = some (.lst (ys ++ [v])) := upd_same
    have u14 := u13.put (o := .lst (ys ++ [v])) nRp
    have hB14 : (L2.upd H13 R (.lst (ys ++ [v]))) Bn = some (.lst [.int ((b0 : Nat) : Int), .int ((b1 : Nat) : Int)]) := by rw [L2.upd_ne nBR]; exact hB13
    have jj : Same (hide H' R) (hide (hide (L2.upd H13 R (.lst (ys ++ [v]))) p2) R) := (hide_mono g13).trans hide_put2
    have dallG : DpAll K (hide (hide (L2.upd H13 R (.lst (ys ++ [v]))) p2) R) (ys ++ [v]) ((es ++ [e]).map En.d) := by
      rw [List.map_append]
      exact dpApp (dpAll_same jj dall) (.cons (dp_same hide_put2 dv) .nil)
    have dvG : Dp K (hide (L2.upd H13 R (.lst (ys ++ [v]))) p2) v e.d := dp_same (hide_put2.trans hide_same) dv
    generalize L2.upd H13 R (.lst (ys ++ [v])) = H14 at hR14 u14 hB14 jj dallG dvG ⊢
    have fR : (hide H14 p2) R = some (.lst (ys ++ [v])) := hide_ne hR14 nRp
    have fB : (hide H14 p2) Bn = some (.lst [.int ((b0 : Nat) : Int), .int ((b1 : Nat) : Int)]) := hide_ne hB14 nBp
    have fp : (hide H14 p2) p2 = none := by unfold hide; rw [if_pos rfl]
    have big := t11.trans jj
    have sX : Same (hide H14 p2) H14 := hide_same
    generalize hide H14 p2 = G at fR fB fp big dallG dvG sX
    clear jj hR13 hB13 g13 u13 t13 nBR kc gc hBc qc uc nBp nBn ob ub oa ua g12 nWp all5 t11 hR dall dv u12 t12 n12
    -- the last sum
    obtain ⟨a0, vt, rfl, hqe, dvt⟩ := en_read dvG
    refine ⟨_, rfl, _, rfl, R, _, _, _, rfl, rfl, SqL.of hR14, atI_last _ _, a0, _, 0, _, rfl, rfl, sX.seq hqe, at0, ?_⟩
    have h11 : e.t.ht ≤ 11 := by
      have := ge.ht
      have := ge.k12
      omega
    have few : e.t.nms.length ≤ 40 := by
      have := ge.nl
      have := ge.z40
      omega
    have nice := ok_nice ge.gd.ok
    have evn : ∀ {H' : Hp} {b' g' : Addr}, H' b' = some (.dK (bkV [])) → H' g' = some (.lst (([] : List Str).map V.str)) → EvOk K H' b' g' ev0 := fun x y => ⟨⟨[], x, by simp, fun _ => rfl⟩, SqL.of y, by simp [ev0], by show 0 ≤ 1000; decide⟩
    -- its names
    refine ⟨_, rfl, vt, e.t, rfl, dp_same sX dvt, Nat.le_trans h11 (by decide), nice, ge.gd.fine, by omega, fun H15 Dn hn t15 nDn pn sn hDn => ?_⟩
    have s15 := sX.trans t15
    refine ⟨_, rfl, vt, e.t, rfl, dp_same s15 dvt, Nat.le_trans h11 (by decide), ge.gd.fine, by omega, fun _ H16 Fn fn t16 nFn pf sf hFn => ?_, fun z => by rw [ge.gd.ok] at z; cases z⟩
    obtain rfl : fn = hn := sorted_eq (pf.trans pn.symm) sf sn
    have ln : fn.length ≤ 1000 := by
      rw [pn.length_eq]
      have := withAll_len [] e.t.nms
      rw [List.length_nil, Nat.zero_add] at this
      omega
    have s16 := s15.trans t16
    have hDn16 := t16 _ _ hDn
    have nDF : Dn ≠ Fn := fun z => by rw [← z, hDn] at nFn; cases nFn
    have u16 := u14.same (t15.trans t16)
    refine ⟨_, rfl, _, rfl, .ref Fn, .ref Dn, .list (fn.map PyData.str), rfl, .lst (SqL.of hFn) (dpStrs fn), .lst (SqL.of hDn16) (dpStrs fn), pl_strs ln, fun H17 t17 => ⟨_, rfl, if_no rfl ?_⟩⟩
    have s17 := s16.trans t17
    have hFn17 := t17 _ _ hFn
    have hDn17 := t17 _ _ hDn16
    have u17 := u16.same t17
    -- changed
    refine ⟨_, rfl, .inl ⟨rfl, _, SqL.of hFn17⟩, Fn, _, _, rfl, rfl, hFn17, by rw [List.length_map]; exact Nat.lt_of_le_of_lt ln (by decide), ?_⟩
    have nFG : G Fn = none := same_none s15 nFn
    have nFp : Fn ≠ p2 := fun z => by
      obtain ⟨_, _, _, ep, _⟩ := u14
      rw [z, t15 _ _ ep] at nFn; cases nFn
    have s18 := same_upd2 (o := .lst (fn.map V.str ++ [.str "x"])) s17 nFG
    have u18 := u17.put (o := .lst (fn.map V.str ++ [.str "x"])) nFp
    have hDn18 : (L2.upd H17 Fn (.lst (fn.map V.str ++ [.str "x"]))) Dn = some (.lst (fn.map V.str)) := by rw [L2.upd_ne nDF]; exact hDn17
    generalize L2.upd H17 Fn (.lst (fn.map V.str ++ [.str "x"])) = H18 at s18 u18 hDn18 ⊢
    -- its names once more
    refine ⟨_, rfl, vt, e.t, rfl, dp_same s18 dvt, Nat.le_trans h11 (by decide), ge.gd.fine, by omega, fun _ H19 F2 f2 t19 nF2 pf2 sf2 hF2 => ?_, fun z => by rw [ge.gd.ok] at z; cases z⟩
    obtain rfl : f2 = fn := sorted_eq (pf2.trans pn.symm) sf2 sn
    refine ⟨_, rfl, .ref F2, .ref Dn, .list (f2.map PyData.str), rfl, .lst (SqL.of hF2) (dpStrs f2), .lst (SqL.of (t19 _ _ hDn18)) (dpStrs f2), pl_strs ln, fun H20 t20 => ⟨_, rfl, if_no rfl ?_⟩⟩
    have s20 := s18.trans (t19.trans t20)
    have u20 := u18.same (t19.trans t20)
    have hDn20 := (t19.trans t20) _ _ hDn18
    clear hDn hDn16 hDn17 hDn18 hF2 hFn hFn17 t19 t20 t17 t16 t15 s15 s16 s17 s18 u16 u17 u18 pf pf2 sf sf2 nF2 nFn nDF nFG nFp u14
    -- whether it is steady
    refine ⟨fun σ' H' => σ' = [some (.ref a), some (.ref p2), some (.ref WW), some (.ref R), some (.int (1 + (i : Nat))), some (.ref Bn), some vt, some (.ref Dn), some (.ref Fn), some (.bl (sted e.t).isSome), x10, x11] ∧ Same H20 H', ?_, ?_⟩
    rotate_left
    · refine ⟨_, rfl, (by decide : 0 ≤ sizeLine), fun T nT => ?_⟩
      have t21 := same_upd (o := .lst []) nT
      have hT : (L2.upd H20 T (.lst [])) T = some (.lst []) := upd_same
      have hDn21 := t21 _ _ hDn20
      generalize L2.upd H20 T (.lst []) = H21 at t21 hT hDn21 ⊢
      have okn : ∀ x ∈ f2, PyData.strOk x = true := fun x m => by
        rcases (withAll_mem [] e.t.nms x).mp (pn.mem_iff.mp m) with m | m
        · cases m
        · exact nms_ok nice x m
      refine ⟨.list (f2.map PyData.str), .list [], .lst (SqL.of hDn21) (dpStrs f2), .lst (SqL.of hT) .nil, sh_strs okn, by decide, _, rfl, ?_⟩
      rw [eqv_nil]
      cases f2 with
      | cons x r =>
        have ne : e.t.nms ≠ [] := fun z => by
          rw [z] at pn
          exact absurd pn.eq_nil (by simp)
        have es : (sted e.t).isSome = false := by
          unfold sted
          rw [if_neg ne]
          rfl
        refine if_no rfl ⟨?_, t21⟩
        rw [es]
        rfl
      | nil =>
        have en : e.t.nms = [] := by
          cases q : e.t.nms with
          | nil => rfl
          | cons w r =>
            have m : w ∈ ([] : List Str) := pn.mem_iff.mpr ((withAll_mem [] e.t.nms w).mpr (.inr (by rw [q]; exact .head _)))
            cases m
        have es : (sted e.t).isSome = (vl ev0 e.t).isOk := by
          unfold sted
          rw [if_pos en]
          cases vl ev0 e.t <;> rfl
        refine if_yes rfl ?_
        refine ⟨_, rfl, fun Z nZ => ?_⟩
        have t22 := same_upd (o := .dK []) nZ
        have hZ : (L2.upd H21 Z (.dK [])) Z = some (.dK (bkV [])) := upd_same
        generalize L2.upd H21 Z (.dK []) = H22 at t22 hZ ⊢
        refine ⟨(by decide : 0 ≤ sizeLine), fun Lg nLg => ?_⟩
        have t23 := same_upd (o := .lst []) nLg
        have hLg : (L2.upd H22 Lg (.lst [])) Lg = some (.lst (([] : List Str).map V.str)) := upd_same
        have hZ := t23 _ _ hZ
        generalize L2.upd H22 Lg (.lst []) = H23 at t23 hLg hZ ⊢
        have a23 := t21.trans (t22.trans t23)
        refine ⟨vt, e.t, Z, Lg, ev0, rfl, dp_same (s20.trans a23) dvt, Nat.le_trans h11 (by decide), nice, ge.gd.wok, evn hZ hLg, fun H24 u t24 du => ?_⟩
        obtain ⟨F', x, rfl, hF', hx⟩ := rs_read du
        refine ⟨F', _, 0, _, rfl, rfl, hF', at0, rfl, ?_, a23.trans t24⟩
        rw [es, ← kd_ok]
        rfl
    rintro σ' H24 ⟨rfl, t24⟩
    have s24 := s20.trans t24
    have u24 := u20.same t24
    refine ⟨_, rfl, vt, e.t, rfl, dp_same s24 dvt, Nat.le_trans h11 (by decide), ge.gd.fine, by omega, fun _ H25 t25 => ?_, fun z => by rw [ge.gd.ok] at z; cases z⟩
    refine ⟨_, rfl, _, _, .bool (sted e.t).isSome, rfl, .bl _, .bl _, pl_bl _ _, fun H26 t26 => ⟨_, rfl, if_no rfl ?_⟩⟩
    have s26 := s24.trans (t25.trans t26)
    have u26 := u24.same (t25.trans t26)
    -- spoiled
    refine ⟨_, rfl, _, rfl, spl12 (E := E0) (by omega) u26 (dp_same s26 dvt) h11 nice ge.gd.fine fun H27 v1 t1 q27 u27 d1 o1 h1 f1 => ?_⟩
    have s27 := (hide_of s26 fp).trans (q27.trans hide_same)
    refine ⟨_, rfl, _, rfl, vt, e.t, p2, _, rfl, by omega, u27, dp_same s27 dvt, h11, nice, ge.gd.fine, fun H28 v2 t2 q28 u28 d2 o2 h2 f2' => ?_⟩
    have s28 := (hide_of s27 fp).trans (q28.trans hide_same)
    have d12 : Dp K H28 v1 t1.d := by
      obtain ⟨_, _, _, ep1, _⟩ := id u27
      exact dp_same (q28.trans hide_same) (tm_hide ep1 d1)
    refine ⟨(by decide : 2 ≤ sizeLine), fun Wn nWn => ?_⟩
    have q29 := same_upd (o := .lst [v1, v2]) nWn
    have hW29 : (L2.upd H28 Wn (.lst [v1, v2])) Wn = some (.lst [v1, v2]) := upd_same
    have d13 := dp_same q29 d12
    have d23 := dp_same q29 d2
    generalize L2.upd H28 Wn (.lst [v1, v2]) = H29 at q29 hW29 d13 d23 ⊢
    have s29 := s28.trans q29
    have hB29 := s29 _ _ fB
    refine ⟨2, rfl, by decide, by decide, ?_⟩
    refine for_range (lo := 0) (n := 2) (fun j σ H' => (∃ x11 : Option V, σ = [some (.ref a), some (.ref p2), some (.ref WW), some (.ref R), some (.int (1 + (i : Nat))), some (.ref Bn), some vt, some (.ref Dn), some (.ref Fn), some (.bl (sted e.t).isSome), some (.ref Wn), x11]) ∧ Same H29 H') ⟨⟨_, rfl⟩, Same.refl _⟩ (fun j σ H' hj e' => ?_) (fun σ H' e' => ?_)
    · obtain ⟨⟨y11, rfl⟩, s30⟩ := e'
      obtain ⟨vj, tj, bj, hv, hb, dj, oj, hhj, fj⟩ : ∃ (vj : V) (tj : Tm) (bj : Int), [v1, v2][j]? = some vj ∧ [V.int ((b0 : Nat) : Int), .int ((b1 : Nat) : Int)][j]? = some (.int bj) ∧ Dp K H29 vj tj.d ∧ tj.ok = false ∧ tj.ht ≤ 14 ∧ tj.fine := by
        rcases (by omega : j = 0 ∨ j = 1) with rfl | rfl
        · exact ⟨v1, t1, _, rfl, rfl, d13, o1, by omega, f1⟩
        · exact ⟨v2, t2, _, rfl, rfl, d23, o2, by omega, f2'⟩
      have at1 : ∀ {xs : List V} {x : V}, xs[j]? = some x → atI xs (0 + ((j : Nat) : Int)) = some x := fun h => by
        rw [Int.zero_add]
        exact atI_nat h
      have hWj := s30 _ _ hW29
      have hBj := s30 _ _ hB29
      refine ⟨_, rfl, _, rfl, Wn, _, _, vj, rfl, rfl, SqL.of hWj, at1 hv, _, rfl, _, rfl, Bn, _, _, .int bj, rfl, rfl, SqL.of hBj, at1 hb, vj, tj, bj, rfl, dp_same s30 dj, hhj, fj, oj, fun H31 u t31 du => ?_⟩
      refine ⟨_, rfl, _, rfl, Wn, _, _, vj, rfl, rfl, SqL.of (t31 _ _ hWj), at1 hv, (by decide : 2 ≤ sizeLine), fun T nT => ?_⟩
      have t32 := same_upd (o := .tup [.str "InvalidTree", vj]) nT
      have dT : Dp K (L2.upd H31 T (.tup [.str "InvalidTree", vj])) (.ref T) (.tuple [.str "InvalidTree", tj.d]) := .tup (SqT.of upd_same) (.cons (.str _) (.cons (dp_same (s30.trans (t31.trans t32)) dj) .nil))
      refine ⟨u, .ref T, _, rfl, dp_same t32 du, dT, pl_two (pl_str _ _) (tm_pl (n := 14) hhj), fun H33 t33 => ⟨_, rfl, if_no rfl ⟨⟨_, rfl⟩, s30.trans (t31.trans (t32.trans t33))⟩⟩⟩
    · obtain ⟨⟨y11, rfl⟩, s30⟩ := e'
      have aF := s29.trans s30
      exact ⟨⟨_, _, _, _, _, _, _, _, _, rfl⟩, big.trans (hide_mono aF), es ++ [e], ys ++ [.ref a0], aF _ _ fR, dpAll_same (hide_mono aF) dallG, fun z m => by
        rcases List.mem_append.mp m with m | m
        · exact eg z m
        · rw [List.mem_singleton.mp m]; exact ge, by rw [List.length_append, el]; rfl⟩
end
end Qb
end PySem
namespace PySem
namespace Qb
open PySem.W PySem.Calls PyProof.Rows L2
section
variable {P : Program} {w : World} {K : Frag} {mg : Str → Option Value} {base : Heap}
theorem ok_Sy {CT : Addr} {f : Addr} {fd : FuncData}  (F : Fun K "is_steady" "is_steady" sSy f fd) (B : Blt mg) (hCk : HasX P w K mg base 19 "check_sum" ["tree"] (spCk K CT)) (hSn : Has P w K mg base 35 "steady_number" ["tree"] (spSn K)) :
    FnOk P w K mg base (L2.CX P w) 36 f fd ["tree"] (spSy K CT) := by
  obtain ⟨fCk, dCk, gCk, kCk, bCk, GCk⟩ := hCk
  obtain ⟨fSn, dSn, gSn, kSn, bSn, GSn⟩ := hSn
  refine F.okX scSy (fun vs H Q E h => ?_) (fun cdv A outer s H vs Q E hr h => ?_)
  · obtain ⟨v, t, rfl, _⟩ := h
    rfl
  · refine ⟨_, (pss_cons (ps_expr (pe_callS GCk (hr.mono (by decide)) rfl gCk kCk bCk (fun σ => passAt (takes_of rfl rfl rfl rfl) σ) (by exact (pa_cons (pv 0) pa_nil))))
        (pss_one (ps_ret (pe_cmpR op_notN (pe_call GSn hr rfl gSn kSn bSn .nil pass0 (pa_cons (pv 0) pa_nil)) pe_non (nomark _))))), ?_⟩
    obtain ⟨v, t, rfl, hd, hh, hf, few, k, kE⟩ := h
    refine ⟨_, rfl, v, t, rfl, hd, hh, hf, fun e H1 s1 => ?_, fun e H1 u s1 hu => kE e H1 u s1 hu⟩
    refine ⟨_, rfl, v, t, rfl, dp_same s1 hd, hh, ok_nice e, few, fun H2 s2 => ⟨rfl, ?_⟩⟩
    have z := k e H2 (s1.trans s2)
    cases q : sted t with
    | none => rw [q] at z; exact z
    | some i => rw [q] at z; exact z
theorem ok_Ni {CT : Addr} {f : Addr} {fd : FuncData}  (F : Fun K "names_in" "names_in" sNi f fd) (B2 : BltS mg) (hCk : HasX P w K mg base 19 "check_sum" ["tree"] (spCk K CT)) (hAl : Has P w K mg base 20 "all_names" ["tree"] (spAl K 19)) :
    FnOk P w K mg base (L2.CX P w) 21 f fd ["tree"] (spNi K CT) := by
  obtain ⟨fCk, dCk, gCk, kCk, bCk, GCk⟩ := hCk
  obtain ⟨fAl, dAl, gAl, kAl, bAl, GAl⟩ := hAl
  refine F.okX scNi (fun vs H Q E h => ?_) (fun cdv A outer s H vs Q E hr h => ?_)
  · obtain ⟨v, t, rfl, _⟩ := h
    rfl
  · refine ⟨_, (pss_cons (ps_expr (pe_callS GCk (hr.mono (by decide)) rfl gCk kCk bCk (fun σ => passAt (takes_of rfl rfl rfl rfl) σ) (by exact (pa_cons (pv 0) pa_nil))))
        (pss_one (ps_ret (pe_callB (cr_sortTx rfl) (by rfl) B2.sorted (by decide +kernel) (pa_cons (pe_callTy (cr_setTx rfl) (by rfl) B2.set (by decide +kernel) (pa_cons (pe_call GAl hr rfl gAl kAl bAl .nil pass0 (pa_cons (pv 0) pa_nil)) pa_nil)) pa_nil))))), ?_⟩
    obtain ⟨v, t, rfl, hd, hh, hf, few, k, kE⟩ := h
    refine ⟨_, rfl, v, t, rfl, hd, hh, hf, fun e H1 s1 => ?_, fun e H1 u s1 hu => kE e H1 u s1 hu⟩
    refine ⟨_, rfl, v, t, rfl, dp_same s1 hd, Nat.le_trans hh (by decide), ok_nice e, Nat.le_trans (Nat.le_of_lt few) (by decide), fun H2 C s2 nC hC => ?_⟩
    refine ⟨C, t.nms, rfl, SqL.of hC, Nat.le_trans (Nat.le_of_lt few) (by decide), fun a na => ?_⟩
    refine ⟨a, _, rfl, upd_same, Nat.lt_of_le_of_lt (withAll_len [] t.nms) (by simpa using few), fun ys p py sy np => ?_⟩
    have s3 : Same H (L2.upd (L2.upd H2 a (TxO P w a (withAll [] t.nms))) p (.lst (ys.map V.str))) := ((s1.trans s2).trans (same_upd na)).trans (same_upd np)
    exact k e _ p ys s3 (same_none ((s1.trans s2).trans (same_upd na)) np) py sy upd_same
end
end Qb
end PySem
namespace PySem
namespace Qb
open PySem.W PySem.Calls PyProof.Rows L2
section
variable {P : Program} {w : World} {K : Frag} {mg : Str → Option Value} {base : Heap}
abbrev sIn : Stmt := inClass (top 4) 0
theorem scIn : FnScope ["self", "value"] ["self", "value"] (defScope sIn) := ⟨rfl, rfl, rfl, by decide +kernel, rfl, by decide +kernel, by decide +kernel⟩
theorem ok_In {f : Addr} {fd : FuncData} (F : Fun K "__init__" "ShellError.__init__" sIn f fd) : FnOk P w K mg base CX0 1 f fd ["self", "value"] (spInit K) := by
  refine F.ok scIn (fun vs H Q E h => ?_) (fun cdv A outer s H vs Q E hr h => ⟨_, pss_one (ps_ost (pv 0) (pv 1)), ?_⟩)
  · obtain ⟨a, C, v, rfl, _⟩ := h
    rfl
  · obtain ⟨a, C, v, rfl, T, hno, ha, k⟩ := h
    exact ⟨_, rfl, _, rfl, a, C, rfl, T, hno, .inl ⟨ha, fun dx nd ne => k dx nd ne⟩⟩
end
theorem glob_mk {K : Frag} {mg : Str → Option Value} {h : Heap} {x c d : Str} {t : Tok} (X : K.In h) (G : h.Ns mainGlobals mg) (a : nsIn K mainGlobals x = some (some (.str c t))) (e : c = d) : ∃ t, mg x = some (.str d t) := ⟨t, e ▸ mg_of X G a⟩
theorem glob_mkI {K : Frag} {mg : Str → Option Value} {h : Heap} {x : Str} {c d : Int} {t : Tok} (X : K.In h) (G : h.Ns mainGlobals mg) (a : nsIn K mainGlobals x = some (some (.int c t))) (e : c = d) : ∃ t, mg x = some (.int d t) := ⟨t, e ▸ mg_of X G a⟩
theorem tup_mk {K : Frag} {mg : Str → Option Value} {h : Heap} {x : Str} {p : Addr} {dd : Option Addr} {its : Array Value} {n : Nat} {sl : Array (Option Value)} {ws : List Str}
    (X : K.In h) (G : h.Ns mainGlobals mg) (a : nsIn K mainGlobals x = some (some (.ref p))) (l : K.lookup p = some ⟨.type "tuple", dd, .seq its n, sl⟩) (z : its.size ≤ 1000) (v : Vals (ws.map V.str) its.toList) :
    ∃ p, mg x = some (.ref p) ∧ ∀ H, SqT K H p (ws.map V.str) :=
  ⟨p, mg_of X G a, fun H => .inr ⟨_, its, n, l, rfl, rfl, Nat.le_trans z (by decide), v⟩⟩
/-- a written dict of texts: its entries -/
inductive Ent (w : World) : List DictEntry → List (Str × V) → Prop where
  | nil : Ent w [] []
  | cons {h : Int} {x : Str} {t : Tok} {u : Value} {v : V} {es : List DictEntry} {ps : List (Str × V)} (hk : h = PyData.keyHash w.params x) (hv : RelV v u) (r : Ent w es ps) : Ent w (⟨h, .str x t, u⟩ :: es) ((x, v) :: ps)
theorem Ent.lit {w : World} : ∀ {es : List DictEntry} {ps : List (Str × V)}, Ent w es ps → KeysLit w.params es
  | _, _, .nil => trivial
  | _, _, .cons hk _ r => ⟨⟨_, _, rfl, hk⟩, r.lit⟩
theorem Ent.none_ref {w : World} : ∀ {es : List DictEntry} {ps : List (Str × V)}, Ent w es ps → es.any (·.refKey) = false
  | _, _, .nil => rfl
  | _, _, .cons _ _ r => by
    rw [List.any_cons, r.none_ref]
    rfl
theorem Ent.find {w : World} (s : Str) : ∀ {es : List DictEntry} {ps : List (Str × V)}, Ent w es ps → (ps.lookup s = none → es.find? (·.key.isStr s) = none) ∧ (∀ v, ps.lookup s = some v → ∃ e, es.find? (·.key.isStr s) = some e ∧ RelV v e.val)
  | _, _, .nil => ⟨fun _ => rfl, fun v z => by cases z⟩
  | _, _, @Ent.cons _ h x t u v es ps hk hv r => by
    have e1 : ((⟨h, .str x t, u⟩ : DictEntry).key.isStr s) = (x == s) := rfl
    rw [List.find?_cons, e1, List.lookup_cons]
    by_cases c : s = x
    · subst c
      simp only [beq_self_eq_true]
      refine ⟨(fun z => by cases z), (fun v' z => ⟨_, rfl, ?_⟩)⟩
      cases z
      exact hv
    · rw [beq_eq_false_iff_ne.mpr c, beq_eq_false_iff_ne.mpr (Ne.symm c)]
      exact r.find s
theorem dict_mk {K : Frag} {w : World} {mg : Str → Option Value} {h : Heap} {d : Addr} {es : Array DictEntry} {n : Nat} {ps : List (Str × V)} {x : Str}
    (X : K.In h) (G : h.Ns mainGlobals mg) (a : nsIn K mainGlobals x = some (some (.ref d))) (l : K.lookup d = some ⟨.type "dict", none, .dict es n, #[]⟩) (e : Ent w es.toList ps) (low : (d == sysModules) = false) :
    mg x = some (.ref d) ∧ KDict K w d es n ∧ ∀ s, (ps.lookup s = none → PySem.W.nsIn K d s = some none) ∧ (∀ v, ps.lookup s = some v → ∃ u, PySem.W.nsIn K d s = some (some u) ∧ RelV v u) := by
  refine ⟨mg_of X G a, ⟨l, e.lit, low⟩, fun s => ?_⟩
  have en : PySem.W.nsIn K d s = (match es.toList.find? (·.key.isStr s) with | some e => some (some e.val) | none => if es.toList.any (·.refKey) then none else some none) := by
    unfold PySem.W.nsIn
    rw [l]
    rfl
  obtain ⟨f1, f2⟩ := e.find s
  refine ⟨fun z => ?_, fun v z => ?_⟩
  · rw [en, f1 z, e.none_ref]
    rfl
  · obtain ⟨e', h1, h2⟩ := f2 v z
    rw [en, h1]
    exact ⟨_, rfl, h2⟩
def rkP : List (Str × V) := [("||", .int 2), ("&&", .int 3), ("==", .int 4), ("!=", .int 4), ("<", .int 5), ("<=", .int 5), (">", .int 5), (">=", .int 5), ("+", .int 6), ("-", .int 6), ("*", .int 7), ("/", .int 7), ("^", .int 7)]
theorem lookup_map (s : Str) : ∀ (l : List (Str × Nat)), (l.map fun p => (p.1, V.int (p.2 : Nat))).lookup s = (l.lookup s).map fun n => V.int (n : Nat)
  | [] => rfl
  | (x, n) :: l => by
    rw [List.map_cons, List.lookup_cons, List.lookup_cons]
    cases (s == x) with
    | true => rfl
    | false => exact lookup_map s l
theorem rks_mk {K : Frag} {w : World} {mg : Str → Option Value} {h : Heap} {d : Addr} {es : Array DictEntry} {n : Nat}
    (X : K.In h) (G : h.Ns mainGlobals mg) (a : nsIn K mainGlobals "RANKS" = some (some (.ref d))) (l : K.lookup d = some ⟨.type "dict", none, .dict es n, #[]⟩) (e : Ent w es.toList rkP) (low : (d == sysModules) = false) :
    ∃ (d : Addr) (es : Array DictEntry) (n : Nat), mg "RANKS" = some (.ref d) ∧ KDict K w d es n ∧ ∀ s : Str, (isOp s = false → PySem.W.nsIn K d s = some none) ∧ (isOp s = true → ∃ t, PySem.W.nsIn K d s = some (some (.int (rk s : Nat) t))) := by
  obtain ⟨h1, h2, h3⟩ := dict_mk X G a l e low
  have er : rkP = rks.map fun p => (p.1, V.int (p.2 : Nat)) := rfl
  refine ⟨d, es, n, h1, h2, fun s => ?_⟩
  obtain ⟨f1, f2⟩ := h3 s
  rw [er, lookup_map] at f1 f2
  refine ⟨fun z => f1 ?_, fun z => ?_⟩
  · unfold isOp at z
    cases q : rks.lookup s with
    | none => rfl
    | some n => rw [q] at z; cases z
  · unfold isOp at z
    obtain ⟨m, hm⟩ := Option.isSome_iff_exists.mp z
    rw [hm] at f2
    obtain ⟨u, h4, t, rfl⟩ := f2 _ rfl
    refine ⟨t, ?_⟩
    rw [h4]
    unfold rk
    rw [hm]
    rfl
theorem vals_rev {zs : List V} {ws : List Value} (r : Vals zs ws) : Vals zs.reverse ws.reverse := by
  induction r with
  | nil => exact .nil
  | cons h t ih =>
    rw [List.reverse_cons, List.reverse_cons]
    exact ih.append (.cons h .nil)
theorem three_lists {us ws : List Value} (h : us.length + ws.length = 3) : (us = [] ∧ ∃ a b c, ws = [a, b, c]) ∨ (∃ a b c, us = [a] ∧ ws = [b, c]) ∨ (∃ a b c, us = [a, b] ∧ ws = [c]) ∨ ∃ a b c, us = [a, b, c] ∧ ws = [] := by
  rcases us with _ | ⟨a, _ | ⟨b, _ | ⟨c, _ | ⟨d, us⟩⟩⟩⟩
  · rcases ws with _ | ⟨x, _ | ⟨y, _ | ⟨z, _ | ⟨t, ws⟩⟩⟩⟩
    · cases h
    · cases h
    · cases h
    · exact .inl ⟨rfl, _, _, _, rfl⟩
    · simp at h
  · rcases ws with _ | ⟨x, _ | ⟨y, _ | ⟨z, ws⟩⟩⟩
    · cases h
    · cases h
    · exact .inr (.inl ⟨_, _, _, rfl, rfl⟩)
    · simp at h; omega
  · rcases ws with _ | ⟨x, _ | ⟨y, ws⟩⟩
    · cases h
    · exact .inr (.inr (.inl ⟨_, _, _, rfl, rfl⟩))
    · simp at h; omega
  · rcases ws with _ | ⟨x, ws⟩
    · exact .inr (.inr (.inr ⟨_, _, _, rfl, rfl⟩))
    · simp at h
  · simp at h; omega
/-- the law holds, by what the text's top has left -/
theorem law_holds {P : Program} {w : World} {K : Frag} {mg mb : Str → Option Value} {s : Shared} {fa a : Addr} {vs : List Value} {ns : List Int} {f0 f1 f2 f3 f4 f5 f6 f7 f8 f9 f10 f11 f12 f13 f14 f15 f16 f17 f18 f19 f20 f21 f22 f23 f24 f25 f26 f27 f28 f29 f30 f31 f32 f33 f34 f35 f36 f37 f38 f39 f40 f41 f42 f43 f44 f45 f46 f47 f48 f49 f50 f51 f52 f53 f54 C CU CT CS CN CG CZ : Addr} {d0 d1 d2 d3 d4 d5 d6 d7 d8 d9 d10 d11 d12 d13 d14 d15 d16 d17 d18 d19 d20 d21 d22 d23 d24 d25 d26 d27 d28 d29 d30 d31 d32 d33 d34 d35 d36 d37 d38 d39 d40 d41 d42 d43 d44 d45 d46 d47 d48 d49 d50 d51 d52 d53 d54 : FuncData} {mU mT mS mN mG mZ : List Value}
    (KX : K.In s.heap) (hns : s.heap.Ns mainGlobals mg) (hb : s.heap.Ns builtinsNs mb) (hbb : ∀ x : Str, x ≠ "__name__" → mb x = bootBuiltins x) (lim : s.heap.NoLimit) (hg : s.gens = #[])
    (ha : s.heap.get? a = some { cls := .type "list", data := .seq vs.toArray }) (hi : IntsAre vs ns) (hl : ns.length ≤ 63)
    (W : Wrt K w mg) (B : Blt mg) (B2 : BltS mg) (T : Txt K mg C) (EGi : EG K f0)
    (TU : EC K mg f0 "Unreadable" CU mU) (TT : EC K mg f0 "InvalidTree" CT mT) (TS : EC K mg f0 "ShellError" CS mS) (TN : EC K mg f0 "NoInteger" CN mN) (TG : EC K mg f0 "TooGreat" CG mG) (TZ : EC K mg f0 "DividedByZero" CZ mZ)
    (kNS : (Value.ref CN :: mN).contains (.ref CS) = true) (kNT : (Value.ref CN :: mN).contains (.ref CT) = false) (kNN : (Value.ref CN :: mN).contains (.ref CN) = true) (kNG : (Value.ref CN :: mN).contains (.ref CG) = false) (kNZ : (Value.ref CN :: mN).contains (.ref CZ) = false) (kGS : (Value.ref CG :: mG).contains (.ref CS) = true) (kGT : (Value.ref CG :: mG).contains (.ref CT) = false) (kGN : (Value.ref CG :: mG).contains (.ref CN) = false) (kGG : (Value.ref CG :: mG).contains (.ref CG) = true) (kGZ : (Value.ref CG :: mG).contains (.ref CZ) = false) (kZS : (Value.ref CZ :: mZ).contains (.ref CS) = true) (kZT : (Value.ref CZ :: mZ).contains (.ref CT) = false) (kZN : (Value.ref CZ :: mZ).contains (.ref CN) = false) (kZG : (Value.ref CZ :: mZ).contains (.ref CG) = false) (kZZ : (Value.ref CZ :: mZ).contains (.ref CZ) = true) (kTS : (Value.ref CT :: mT).contains (.ref CS) = true) (kTT : (Value.ref CT :: mT).contains (.ref CT) = true) (kTN : (Value.ref CT :: mT).contains (.ref CN) = false) (kTG : (Value.ref CT :: mT).contains (.ref CG) = false) (kTZ : (Value.ref CT :: mT).contains (.ref CZ) = false)
    (F0 : Fun K "__init__" "ShellError.__init__" sIn f0 d0) 
    (F1 : Fun K "name_length" "name_length" sNl f1 d1) (g1 : mg "name_length" = some (.ref f1))
    (F2 : Fun K "is_name" "is_name" sNn f2 d2) (g2 : mg "is_name" = some (.ref f2))
    (F3 : Fun K "is_place" "is_place" sIp f3 d3) (g3 : mg "is_place" = some (.ref f3))
    (F4 : Fun K "is_sum" "is_sum" sIs f4 d4) (g4 : mg "is_sum" = some (.ref f4))
    (F5 : Fun K "fresh" "fresh" sFr f5 d5) (g5 : mg "fresh" = some (.ref f5))
    (F6 : Fun K "__init__" "Scanner.__init__" sSc f6 d6) (M6 : Mk K C f6)
    (F7 : Fun K "is_at_end" "Scanner.is_at_end" sAe f7 d7) (m7 : Meth K C "is_at_end" f7)
    (F8 : Fun K "sees" "Scanner.sees" sSe f8 d8) (m8 : Meth K C "sees" f8)
    (F9 : Fun K "sees_one_of" "Scanner.sees_one_of" sSo f9 d9) (m9 : Meth K C "sees_one_of" f9)
    (F10 : Fun K "takes" "Scanner.takes" sTa f10 d10) (m10 : Meth K C "takes" f10)
    (F11 : Fun K "need" "Scanner.need" sNe f11 d11) (m11 : Meth K C "need" f11)
    (F12 : Fun K "row_of" "Scanner.row_of" sRo f12 d12) (m12 : Meth K C "row_of" f12)
    (F13 : Fun K "fail" "Scanner.fail" sFa f13 d13) (m13 : Meth K C "fail" f13)
    (F14 : Fun K "sum_at" "sum_at" sSu f14 d14) (g14 : mg "sum_at" = some (.ref f14))
    (F15 : Fun K "two_parts_at" "two_parts_at" sTw f15 d15) (g15 : mg "two_parts_at" = some (.ref f15))
    (F16 : Fun K "two_part_sign" "two_part_sign" sTs f16 d16) (g16 : mg "two_part_sign" = some (.ref f16))
    (F17 : Fun K "ahead_at" "ahead_at" sAh f17 d17) (g17 : mg "ahead_at" = some (.ref f17))
    (F18 : Fun K "plain_at" "plain_at" sPl f18 d18) (g18 : mg "plain_at" = some (.ref f18))
    (F19 : Fun K "place_at" "place_at" sPc f19 d19) (g19 : mg "place_at" = some (.ref f19))
    (F20 : Fun K "digits_at" "digits_at" sDg f20 d20) (g20 : mg "digits_at" = some (.ref f20))
    (F21 : Fun K "read_sum" "read_sum" sRs f21 d21) (g21 : mg "read_sum" = some (.ref f21))
    (F22 : Fun K "check_sum" "check_sum" sCk f22 d22) (g22 : mg "check_sum" = some (.ref f22))
    (F23 : Fun K "number_of" "number_of" sNo f23 d23) (g23 : mg "number_of" = some (.ref f23))
    (F24 : Fun K "checked" "checked" sCd f24 d24) (g24 : mg "checked" = some (.ref f24))
    (F25 : Fun K "joined_numbers" "joined_numbers" sJn f25 d25) (g25 : mg "joined_numbers" = some (.ref f25))
    (F26 : Fun K "cut_quotient" "cut_quotient" sCq f26 d26) (g26 : mg "cut_quotient" = some (.ref f26))
    (F27 : Fun K "compared" "compared" sCm f27 d27) (g27 : mg "compared" = some (.ref f27))
    (F28 : Fun K "text_of" "text_of" sTo f28 d28) (g28 : mg "text_of" = some (.ref f28))
    (F29 : Fun K "number_told" "number_told" sNt f29 d29) (g29 : mg "number_told" = some (.ref f29))
    (F30 : Fun K "is_integer" "is_integer" sIi f30 d30) (g30 : mg "is_integer" = some (.ref f30))
    (F31 : Fun K "worked_out" "worked_out" sWo f31 d31) (g31 : mg "worked_out" = some (.ref f31))
    (F32 : Fun K "names_in" "names_in" sNi f32 d32) (g32 : mg "names_in" = some (.ref f32))
    (F33 : Fun K "is_steady" "is_steady" sSy f33 d33) (g33 : mg "is_steady" = some (.ref f33))
    (F34 : Fun K "folded" "folded" sFd f34 d34) (g34 : mg "folded" = some (.ref f34))
    (F35 : Fun K "all_names" "all_names" sAl f35 d35) (g35 : mg "all_names" = some (.ref f35))
    (F36 : Fun K "steady_number" "steady_number" sSn f36 d36) (g36 : mg "steady_number" = some (.ref f36))
    (F37 : Fun K "_law_purse" "_law_purse" sPu f37 d37) (g37 : mg "_law_purse" = some (.ref f37))
    (F38 : Fun K "_law_coin" "_law_coin" sCo f38 d38) (g38 : mg "_law_coin" = some (.ref f38))
    (F39 : Fun K "_law_same" "_law_same" sSm f39 d39) (g39 : mg "_law_same" = some (.ref f39))
    (F40 : Fun K "_law_words" "_law_words" sWd f40 d40) (g40 : mg "_law_words" = some (.ref f40))
    (F41 : Fun K "_law_great" "_law_great" sGt f41 d41) (g41 : mg "_law_great" = some (.ref f41))
    (F42 : Fun K "_law_leaf" "_law_leaf" sLf f42 d42) (g42 : mg "_law_leaf" = some (.ref f42))
    (F43 : Fun K "_law_sum" "_law_sum" sLs f43 d43) (g43 : mg "_law_sum" = some (.ref f43))
    (F44 : Fun K "_law_integer" "_law_integer" sLi f44 d44) (g44 : mg "_law_integer" = some (.ref f44))
    (F45 : Fun K "_law_held" "_law_held" sHe f45 d45) (g45 : mg "_law_held" = some (.ref f45))
    (F46 : Fun K "_law_joined" "_law_joined" sLj f46 d46) (g46 : mg "_law_joined" = some (.ref f46))
    (F47 : Fun K "_law_value" "_law_value" sLv f47 d47) (g47 : mg "_law_value" = some (.ref f47))
    (F48 : Fun K "_law_kind" "_law_kind" sLk f48 d48) (g48 : mg "_law_kind" = some (.ref f48))
    (F49 : Fun K "_law_odd" "_law_odd" sOd f49 d49) (g49 : mg "_law_odd" = some (.ref f49))
    (F50 : Fun K "_law_spoiled" "_law_spoiled" sSp f50 d50) (g50 : mg "_law_spoiled" = some (.ref f50))
    (F51 : Fun K "_law_twice" "_law_twice" sTc f51 d51) (g51 : mg "_law_twice" = some (.ref f51))
    (F52 : Fun K "_law_refusal" "_law_refusal" sRf f52 d52) (g52 : mg "_law_refusal" = some (.ref f52))
    (F53 : Fun K "_law_names_of" "_law_names_of" sNf f53 d53) (g53 : mg "_law_names_of" = some (.ref f53))
    (F54 : Fun K "law" "law" sLw f54 d54) (g54 : mg "law" = some (.ref f54))
    (hfa : mg "law" = some (.ref fa)) : codeAny (model P w) callerA (.call (.ref fa) ⟨[.ref a], []⟩) (fun r s' => r = .ok (.ret (.bool true)) ∧ OldK s.heap s'.heap ∧ s'.os = s.os ∧ AllBare s'.gens) s := by
  have e := hfa.symm.trans g54
  cases e
  have b0 := F0.binds (ps := ["self", "value"]) fun _ _ _ _ _ _ us hl => match us, hl with | [_, _], _ => rfl
  have b1 := F1.binds (ps := ["text"]) fun _ _ _ _ _ _ us hl => match us, hl with | [_], _ => rfl
  have b2 := F2.binds (ps := ["text"]) fun _ _ _ _ _ _ us hl => match us, hl with | [_], _ => rfl
  have b3 := F3.binds (ps := ["text"]) fun _ _ _ _ _ _ us hl => match us, hl with | [_], _ => rfl
  have b4 := F4.binds (ps := ["tree"]) fun _ _ _ _ _ _ us hl => match us, hl with | [_], _ => rfl
  have b5 := F5.binds (ps := ["thing"]) fun _ _ _ _ _ _ us hl => match us, hl with | [_], _ => rfl
  have b6 := F6.binds (ps := ["self", "text", "whole"]) fun _ _ _ _ _ _ us hl => match us, hl with | [_, _, _], _ => rfl
  have b7 := F7.binds (ps := ["self"]) fun _ _ _ _ _ _ us hl => match us, hl with | [_], _ => rfl
  have b8 := F8.binds (ps := ["self", "mark"]) fun _ _ _ _ _ _ us hl => match us, hl with | [_, _], _ => rfl
  have b9 := F9.binds (ps := ["self", "some"]) fun _ _ _ _ _ _ us hl => match us, hl with | [_, _], _ => rfl
  have b10 := F10.binds (ps := ["self", "mark"]) fun _ _ _ _ _ _ us hl => match us, hl with | [_, _], _ => rfl
  have b11 := F11.binds (ps := ["self", "mark"]) fun _ _ _ _ _ _ us hl => match us, hl with | [_, _], _ => rfl
  have b12 := F12.binds (ps := ["self", "some"]) fun _ _ _ _ _ _ us hl => match us, hl with | [_, _], _ => rfl
  have b13 := F13.binds (ps := ["self"]) fun _ _ _ _ _ _ us hl => match us, hl with | [_], _ => rfl
  have b14 := F14.binds (ps := ["scanner"]) fun _ _ _ _ _ _ us hl => match us, hl with | [_], _ => rfl
  have b15 := F15.binds (ps := ["scanner", "least"]) fun _ _ _ _ _ _ us hl => match us, hl with | [_, _], _ => rfl
  have b16 := F16.binds (ps := ["scanner"]) fun _ _ _ _ _ _ us hl => match us, hl with | [_], _ => rfl
  have b17 := F17.binds (ps := ["scanner"]) fun _ _ _ _ _ _ us hl => match us, hl with | [_], _ => rfl
  have b18 := F18.binds (ps := ["scanner"]) fun _ _ _ _ _ _ us hl => match us, hl with | [_], _ => rfl
  have b19 := F19.binds (ps := ["scanner"]) fun _ _ _ _ _ _ us hl => match us, hl with | [_], _ => rfl
  have b20 := F20.binds (ps := ["scanner"]) fun _ _ _ _ _ _ us hl => match us, hl with | [_], _ => rfl
  have b21 := F21.binds (ps := ["text"]) fun _ _ _ _ _ _ us hl => match us, hl with | [_], _ => rfl
  have b22 := F22.binds (ps := ["tree"]) fun _ _ _ _ _ _ us hl => match us, hl with | [_], _ => rfl
  have b23 := F23.binds (ps := ["tree", "names", "arguments"]) fun _ _ _ _ _ _ us hl => match us, hl with | [_, _, _], _ => rfl
  have b24 := F24.binds (ps := ["number", "tree"]) fun _ _ _ _ _ _ us hl => match us, hl with | [_, _], _ => rfl
  have b25 := F25.binds (ps := ["tree", "one", "other"]) fun _ _ _ _ _ _ us hl => match us, hl with | [_, _, _], _ => rfl
  have b26 := F26.binds (ps := ["one", "other"]) fun _ _ _ _ _ _ us hl => match us, hl with | [_, _], _ => rfl
  have b27 := F27.binds (ps := ["sign", "one", "other"]) fun _ _ _ _ _ _ us hl => match us, hl with | [_, _, _], _ => rfl
  have b28 := F28.binds (ps := ["name", "names", "arguments"]) fun _ _ _ _ _ _ us hl => match us, hl with | [_, _, _], _ => rfl
  have b29 := F29.binds (ps := ["text"]) fun _ _ _ _ _ _ us hl => match us, hl with | [_], _ => rfl
  have b30 := F30.binds (ps := ["text"]) fun _ _ _ _ _ _ us hl => match us, hl with | [_], _ => rfl
  have b31 := F31.binds (ps := ["tree", "names", "arguments"]) fun _ _ _ _ _ _ us hl => match us, hl with | [_, _, _], _ => rfl
  have b32 := F32.binds (ps := ["tree"]) fun _ _ _ _ _ _ us hl => match us, hl with | [_], _ => rfl
  have kb32 : KBinds K d32 ["tree"] ["tree"] (fun us ws => us ++ ws) (fun vs zs => vs ++ zs) := by
    obtain ⟨oc, od, kV, doc, pm, an, cdv, ct, osl, rfl, lk, hcd⟩ := F32.ex
    refine ⟨fun s us ws _ hl => ?_, fun r rz => r.append rz⟩
    match us, ws, hl with
    | [], [u], _ => exact .of_eq rfl
    | [u], [], _ => exact .of_eq rfl
  have b33 := F33.binds (ps := ["tree"]) fun _ _ _ _ _ _ us hl => match us, hl with | [_], _ => rfl
  have kb33 : KBinds K d33 ["tree"] ["tree"] (fun us ws => us ++ ws) (fun vs zs => vs ++ zs) := by
    obtain ⟨oc, od, kV, doc, pm, an, cdv, ct, osl, rfl, lk, hcd⟩ := F33.ex
    refine ⟨fun s us ws _ hl => ?_, fun r rz => r.append rz⟩
    match us, ws, hl with
    | [], [u], _ => exact .of_eq rfl
    | [u], [], _ => exact .of_eq rfl
  have b34 := F34.binds (ps := ["tree"]) fun _ _ _ _ _ _ us hl => match us, hl with | [_], _ => rfl
  have b35 := F35.binds (ps := ["tree"]) fun _ _ _ _ _ _ us hl => match us, hl with | [_], _ => rfl
  have b36 := F36.binds (ps := ["tree"]) fun _ _ _ _ _ _ us hl => match us, hl with | [_], _ => rfl
  have b37 := F37.binds (ps := ["_law_script", "_law_at"]) fun _ _ _ _ _ _ us hl => match us, hl with | [_, _], _ => rfl
  have b38 := F38.binds (ps := ["_law_purse_here", "_law_many"]) fun _ _ _ _ _ _ us hl => match us, hl with | [_, _], _ => rfl
  have b39 := F39.binds (ps := ["_law_found", "_law_due"]) fun _ _ _ _ _ _ us hl => match us, hl with | [_, _], _ => rfl
  have b40 := F40.binds (ps := ["_law_purse_here"]) fun _ _ _ _ _ _ us hl => match us, hl with | [_], _ => rfl
  have b41 := F41.binds (ps := ["_law_purse_here"]) fun _ _ _ _ _ _ us hl => match us, hl with | [_], _ => rfl
  have b42 := F42.binds (ps := ["_law_purse_here", "_law_words_here"]) fun _ _ _ _ _ _ us hl => match us, hl with | [_, _], _ => rfl
  have b43 := F43.binds (ps := ["_law_purse_here", "_law_pool", "_law_words_here", "_law_most"]) fun _ _ _ _ _ _ us hl => match us, hl with | [_, _, _, _], _ => rfl
  have b44 := F44.binds (ps := ["_law_shown"]) fun _ _ _ _ _ _ us hl => match us, hl with | [_], _ => rfl
  have b45 := F45.binds (ps := ["_law_word", "_law_book", "_law_given"]) fun _ _ _ _ _ _ us hl => match us, hl with | [_, _, _], _ => rfl
  have b46 := F46.binds (ps := ["_law_node", "_law_first", "_law_second"]) fun _ _ _ _ _ _ us hl => match us, hl with | [_, _, _], _ => rfl
  have b47 := F47.binds (ps := ["_law_node", "_law_book", "_law_given"]) fun _ _ _ _ _ _ us hl => match us, hl with | [_, _, _], _ => rfl
  have b48 := F48.binds (ps := ["_law_caught"]) fun _ _ _ _ _ _ us hl => match us, hl with | [_], _ => rfl
  have b49 := F49.binds (ps := ["_law_purse_here"]) fun _ _ _ _ _ _ us hl => match us, hl with | [_], _ => rfl
  have b50 := F50.binds (ps := ["_law_node", "_law_purse_here"]) fun _ _ _ _ _ _ us hl => match us, hl with | [_, _], _ => rfl
  have b51 := F51.binds (ps := ["_law_node", "_law_purse_here"]) fun _ _ _ _ _ _ us hl => match us, hl with | [_, _], _ => rfl
  have b52 := F52.binds (ps := ["_law_node", "_law_way"]) fun _ _ _ _ _ _ us hl => match us, hl with | [_, _], _ => rfl
  have b53 := F53.binds (ps := ["_law_node"]) fun _ _ _ _ _ _ us hl => match us, hl with | [_], _ => rfl
  have bL : ∀ (s : Shared) (u : Value), BindsTo s d54 ⟨[u], []⟩ ((["_law_script"] : List Str).zip [u]) := by
    obtain ⟨oc, od, kV, doc, pm, an, cdv, ct, osl, rfl, lk, hcd⟩ := F54.ex
    exact fun s u => .of_eq rfl
  refine law_at KX hns hb hbb lim hg ha hi (Nat.le_trans hl (by decide)) fun base H hK hN env sq => ?_
  have kin : Kin CS CT CN CG CZ mN mG mZ := by
    refine ⟨fun e => ?_, fun e => ?_, fun e => ?_, fun e => ?_, fun e => ?_⟩
    · cases e with
      | noI _ => exact kNS
      | great _ => exact kGS
      | zero _ => exact kZS
    · cases e with
      | noI _ => exact kNT
      | great _ => exact kGT
      | zero _ => exact kZT
    · cases e with
      | noI _ => exact kNN
      | great _ => exact kGN
      | zero _ => exact kZN
    · cases e with
      | noI _ => exact kNG
      | great _ => exact kGG
      | zero _ => exact kZG
    · cases e with
      | noI _ => exact kNZ
      | great _ => exact kGZ
      | zero _ => exact kZZ
  have oIn := ok_In (P := P) (mg := mg) (w := w) (base := base) F0
  have oNl := has_Nl (P := P) (w := w) (base := base) F1 g1 B W
  have oNn := has_Nn (P := P) (w := w) (base := base) F2 g2 B oNl
  have oIp := has_Ip (P := P) (w := w) (base := base) F3 g3 B W
  have oIsT := ok_IsT (P := P) (w := w) (base := base) F4 g4 b4 B W oIp oNn 15
  have oIs : FnOk P w K mg base CX0 18 f4 d4 ["tree"] (spIs K 15) := oIsT.imp (is_imp 15)
  have oFr := ok_Fr (P := P) (w := w) (base := base) F5 g5 b5 B 16
  have oSc := ok_Sc (P := P) (mg := mg) (w := w) (base := base) F6 T
  have oAe := has_Ae (P := P) (w := w) (base := base) F7 m7 B T
  have oSe := has_Se (P := P) (w := w) (base := base) F8 m8 B T
  have oSo := has_So (P := P) (w := w) (base := base) F9 m9 B T
  have oTa := has_Ta (P := P) (w := w) (base := base) F10 m10 B T oSe
  have oFa := has_Fa (P := P) (w := w) (base := base) EGi TU oIn b0 F13 m13 B T
  have oNe := has_Ne (P := P) (w := w) (base := base) F11 m11 B T oTa oFa
  have oRo := has_Ro (P := P) (w := w) (base := base) F12 m12 B T oSo
  have oTs := has_Ts (P := P) (w := w) (base := base) F16 g16 W T oSe
  have oDg := has_Dg (P := P) (w := w) (base := base) F20 g20 B W T oRo oFa
  have oPc := has_Pc (P := P) (w := w) (base := base) F19 g19 T oTa oDg
  have oR := ok_rdrs (P := P) (w := w) (base := base) F14 g14 b14 F15 g15 b15 F17 g17 b17 F18 g18 b18 B W T oTa oNe oPc oSo oRo oDg oTs 20
  have oRs := ok_Rs (P := P) (w := w) (base := base) EGi TU oIn b0 F21 T M6 b6 oSc oAe g14 F14.kp b14 oR.su
  have hRs : HasX P w K mg base 27 "read_sum" ["text"] (spRs K CU 20) := ⟨f21, d21, g21, F21.kp, b21, oRs⟩
  have oCq := has_Cq (P := P) (w := w) (base := base) F26 g26 B
  have oCm := has_Cm (P := P) (w := w) (base := base) F27 g27 B
  have oIi := has_Ii (P := P) (w := w) (base := base) F30 g30 B W
  have oNt := has_Nt (P := P) (w := w) (base := base) EGi TN oIn b0 F29 g29 B W oIi
  have oTo := has_To (P := P) (w := w) (base := base) F28 g28 B oNn
  have oCd := ok_Cd (P := P) (w := w) (base := base) (CN := CN) (CZ := CZ) EGi TG oIn b0 F24 B W g5 F5.kp b5 oFr
  have oJn := ok_Jn (P := P) (w := w) (base := base) (CN := CN) (CG := CG) EGi TZ oIn b0 F25 B g5 F5.kp b5 oFr oCq oCm
  have oCk := ok_Ck (P := P) (w := w) (base := base) EGi TT oIn b0 F22 B g4 F4.kp b4 oIs g5 F5.kp b5 oFr
  have oNo := ok_No (P := P) (w := w) (base := base) F23 g23 b23 B g24 F24.kp b24 oCd g25 F25.kp b25 oJn oNt oTo 15
  have oCkT := ok_CkT (P := P) (w := w) (base := base) EGi TT oIn b0 F22 B g4 F4.kp b4 oIsT g5 F5.kp b5 oFr
  have hCk : HasX P w K mg base 19 "check_sum" ["tree"] (spCk K CT) := ⟨f22, d22, g22, F22.kp, b22, oCk⟩
  have hNo : HasX P w K mg base 34 "number_of" ["tree", "names", "arguments"] (spNo K CN CG CZ 15) := ⟨f23, d23, g23, F23.kp, b23, oNo⟩
  have hAl15 : Has P w K mg base 16 "all_names" ["tree"] (spAl K 15) := ⟨f35, d35, g35, F35.kp, b35, ok_Al (P := P) (w := w) (base := base) F35 g35 b35 B 15⟩
  have hAl19 : Has P w K mg base 20 "all_names" ["tree"] (spAl K 19) := ⟨f35, d35, g35, F35.kp, b35, ok_Al (P := P) (w := w) (base := base) F35 g35 b35 B 19⟩
  have oSn := has_Sn (P := P) (w := w) (base := base) EGi TG TN TZ TS kin F36 g36 B hAl15 hNo
  have hSy : HasXK P w K mg base 36 "is_steady" ["tree"] (spSy K CT) := ⟨f33, d33, g33, F33.kp, b33, kb33, ok_Sy (P := P) (w := w) (base := base) F33 B hCk oSn⟩
  have hNi : HasXK P w K mg base 21 "names_in" ["tree"] (spNi K CT) := ⟨f32, d32, g32, F32.kp, b32, kb32, ok_Ni (P := P) (w := w) (base := base) F32 B2 hCk hAl19⟩
  have hWoT : HasX P w K mg base 20 "worked_out" ["tree", "names", "arguments"] (spWoT K CT) := ⟨f31, d31, g31, F31.kp, b31, ok_WoT (P := P) (w := w) (base := base) F31 g22 F22.kp b22 oCkT⟩
  have hNiT : HasX P w K mg base 20 "names_in" ["tree"] (spCkT K CT) := ⟨f32, d32, g32, F32.kp, b32, ok_NiT (P := P) (w := w) (base := base) F32 g22 F22.kp b22 oCkT⟩
  have hSyT : HasX P w K mg base 20 "is_steady" ["tree"] (spCkT K CT) := ⟨f33, d33, g33, F33.kp, b33, ok_SyT (P := P) (w := w) (base := base) F33 g22 F22.kp b22 oCkT⟩
  have hFdT : HasX P w K mg base 20 "folded" ["tree"] (spCkT K CT) := ⟨f34, d34, g34, F34.kp, b34, ok_FdT (P := P) (w := w) (base := base) F34 g22 F22.kp b22 oCkT⟩
  have oPu := has_Pu (P := P) (w := w) (base := base) F37 g37 B
  have oCo := has_Co (P := P) (w := w) (base := base) F38 g38 B
  have hSm2 : Has P w K mg base 3 "_law_same" ["_law_found", "_law_due"] (spSm K 2) := ⟨f39, d39, g39, F39.kp, b39, ok_Sm (P := P) (w := w) (base := base) F39 g39 b39 B 2⟩
  have hSm17 : Has P w K mg base 18 "_law_same" ["_law_found", "_law_due"] (spSm K 17) := ⟨f39, d39, g39, F39.kp, b39, ok_Sm (P := P) (w := w) (base := base) F39 g39 b39 B 17⟩
  have oWd := has_Wd (P := P) (w := w) (base := base) F40 g40 B oCo
  have oGt := has_Gt (P := P) (w := w) (base := base) F41 g41 B oCo hRs hSm2
  have oLf := has_Lf (P := P) (w := w) (base := base) F42 g42 B oCo oGt
  have oLs := has_Ls (P := P) (w := w) (base := base) F43 g43 B oCo oLf
  have oLi := has_Li (P := P) (w := w) (base := base) F44 g44 B
  have oHe := has_He (P := P) (w := w) (base := base) F45 g45 B
  have oLj := has_Lj (P := P) (w := w) (base := base) F46 g46 B
  have hLv : Has P w K mg base 15 "_law_value" ["_law_node", "_law_book", "_law_given"] (spLv K 13) := ⟨f47, d47, g47, F47.kp, b47, ok_Lv (P := P) (w := w) (base := base) F47 g47 b47 B oHe oLi oLj 13⟩
  have oLk := has_LkT (P := P) (w := w) (base := base) EGi TG TN TT TZ kTT kTN kTG kTZ F48 g48 B
  have oOd := has_Od (P := P) (w := w) (base := base) F49 g49 B oCo
  have hSp : Has P w K mg base 15 "_law_spoiled" ["_law_node", "_law_purse_here"] (spSpl K 12) := ⟨f50, d50, g50, F50.kp, b50, ok_Sp (P := P) (w := w) (base := base) F50 g50 b50 B oCo oOd 12⟩
  have oTc := has_Tc (P := P) (w := w) (base := base) F51 g51 B hSp
  have oRf := has_Rf (P := P) (w := w) (base := base) EGi TT TS kTS F52 g52 B hWoT hNiT hSyT hFdT oLk
  have hNf : Has P w K mg base 14 "_law_names_of" ["_law_node"] (spNf K 13) := ⟨f53, d53, g53, F53.kp, b53, ok_Nf (P := P) (w := w) (base := base) F53 g53 b53 B2 13⟩
  have hr : Room 37 callerA := ⟨rfl, by decide, by decide⟩
  exact (ok_Lw F54 B oPu oWd oCo oLs hNf hNi hSm17 hLv hSy oTc hSp oRf).run callerA [] s H ⟨[.ref a], []⟩ [.ref a] [.ref a] (fun v _ => v = V.bl true) E0 hr env (bL s (.ref a)) (.cons rfl .nil) ⟨a, ns, rfl, sq, hl, fun _ => rfl⟩
end Qb
end PySem
open PySem PySem.W PyProof.Rows
set_option maxRecDepth 100000 in
set_option maxHeartbeats 0 in
theorem PySem.Challenge.cw_quotedback_k18_names_steady_and_no_sums_holds : PySem.Challenge.rw_quotedback_k18_names_steady_and_no_sums.Holds := by
  w_on; o_law; k_head; (case hw => w_witness2)
  k_fill
  refine Att.attach_call (l := PySem.Challenge.rw_quotedback_k18_names_steady_and_no_sums) (n := 63) rfl rfl ?F
  case F =>
    intro w s₀ s₁ mg mb fa o pm cd doc a vs ns G Y ho hd hcd hmg hobj hints hlen hg
    have KX := kIn_of Y
    refine' PySem.Qb.law_holds KX G.T.g G.T.b G.T.builtins G.T.nolimit hg hobj hints hlen
      ⟨PySem.Qb.glob_mk KX G.T.g ?s0 ?e0, PySem.Qb.glob_mk KX G.T.g ?s1 ?e1, PySem.Qb.glob_mk KX G.T.g ?s2 ?e2, PySem.Qb.glob_mkI KX G.T.g ?s3 ?e3, PySem.Qb.glob_mkI KX G.T.g ?s4 ?e4, PySem.Qb.glob_mkI KX G.T.g ?s5 ?e5, PySem.Qb.tup_mk KX G.T.g ?tapls ?tlpls ?tzpls ?tvpls, PySem.Qb.tup_mk KX G.T.g ?taalls ?tlalls ?tzalls ?tvalls, PySem.Qb.tup_mk KX G.T.g ?tatps ?tltps ?tztps ?tvtps, PySem.Qb.rks_mk KX G.T.g ?ra ?rl ?re ?rlow⟩
      ⟨mg_none_of KX G.T.g ?y0, mg_none_of KX G.T.g ?y1, mg_none_of KX G.T.g ?y2, mg_none_of KX G.T.g ?y3, mg_none_of KX G.T.g ?y4, mg_none_of KX G.T.g ?y5, mg_none_of KX G.T.g ?y6, mg_none_of KX G.T.g ?y7, mg_none_of KX G.T.g ?y8, mg_none_of KX G.T.g ?y9, mg_none_of KX G.T.g ?y10, mg_none_of KX G.T.g ?y11, mg_none_of KX G.T.g ?y12, mg_none_of KX G.T.g ?y13, mg_none_of KX G.T.g ?y14, mg_none_of KX G.T.g ?y15, mg_none_of KX G.T.g ?y16⟩
      ⟨mg_none_of KX G.T.g ?y17, mg_none_of KX G.T.g ?y18⟩
      ⟨⟨?pg, ?hdC, ?po, ?sa⟩, ?n0, ?n1, ?n2, ?n3, mg_of KX G.T.g ?aC⟩
      ⟨?tI, ?hn, ?ht⟩
      (PySem.Qb.ec_mk KX G.T.g ?aU ?lU ?rU ?saU ?gaU ?ggU ?noU ?iCU ?kCU ?ccU) (PySem.Qb.ec_mk KX G.T.g ?aT ?lT ?rT ?saT ?gaT ?ggT ?noT ?iCT ?kCT ?ccT) (PySem.Qb.ec_mk KX G.T.g ?aS ?lS ?rS ?saS ?gaS ?ggS ?noS ?iCS ?kCS ?ccS) (PySem.Qb.ec_mk KX G.T.g ?aN ?lN ?rN ?saN ?gaN ?ggN ?noN ?iCN ?kCN ?ccN) (PySem.Qb.ec_mk KX G.T.g ?aG ?lG ?rG ?saG ?gaG ?ggG ?noG ?iCG ?kCG ?ccG) (PySem.Qb.ec_mk KX G.T.g ?aZ ?lZ ?rZ ?saZ ?gaZ ?ggZ ?noZ ?iCZ ?kCZ ?ccZ)
      ?kNS ?kNT ?kNN ?kNG ?kNZ ?kGS ?kGT ?kGN ?kGG ?kGZ ?kZS ?kZT ?kZN ?kZG ?kZZ ?kTS ?kTT ?kTN ?kTG ?kTZ
      (L2.fun_mk ?lf0 ?cf0 ?kf0) 
      (L2.fun_mk ?lf1 ?cf1 ?kf1) (mg_of KX G.T.g ?af1)
      (L2.fun_mk ?lf2 ?cf2 ?kf2) (mg_of KX G.T.g ?af2)
      (L2.fun_mk ?lf3 ?cf3 ?kf3) (mg_of KX G.T.g ?af3)
      (L2.fun_mk ?lf4 ?cf4 ?kf4) (mg_of KX G.T.g ?af4)
      (L2.fun_mk ?lf5 ?cf5 ?kf5) (mg_of KX G.T.g ?af5)
      (L2.fun_mk ?lf6 ?cf6 ?kf6) ⟨?mk, ?ai6, ?ii6, ?kc⟩
      (L2.fun_mk ?lf7 ?cf7 ?kf7) ⟨?ai7, ?ii7, ?ki7⟩
      (L2.fun_mk ?lf8 ?cf8 ?kf8) ⟨?ai8, ?ii8, ?ki8⟩
      (L2.fun_mk ?lf9 ?cf9 ?kf9) ⟨?ai9, ?ii9, ?ki9⟩
      (L2.fun_mk ?lf10 ?cf10 ?kf10) ⟨?ai10, ?ii10, ?ki10⟩
      (L2.fun_mk ?lf11 ?cf11 ?kf11) ⟨?ai11, ?ii11, ?ki11⟩
      (L2.fun_mk ?lf12 ?cf12 ?kf12) ⟨?ai12, ?ii12, ?ki12⟩
      (L2.fun_mk ?lf13 ?cf13 ?kf13) ⟨?ai13, ?ii13, ?ki13⟩
      (L2.fun_mk ?lf14 ?cf14 ?kf14) (mg_of KX G.T.g ?af14)
      (L2.fun_mk ?lf15 ?cf15 ?kf15) (mg_of KX G.T.g ?af15)
      (L2.fun_mk ?lf16 ?cf16 ?kf16) (mg_of KX G.T.g ?af16)
      (L2.fun_mk ?lf17 ?cf17 ?kf17) (mg_of KX G.T.g ?af17)
      (L2.fun_mk ?lf18 ?cf18 ?kf18) (mg_of KX G.T.g ?af18)
      (L2.fun_mk ?lf19 ?cf19 ?kf19) (mg_of KX G.T.g ?af19)
      (L2.fun_mk ?lf20 ?cf20 ?kf20) (mg_of KX G.T.g ?af20)
      (L2.fun_mk ?lf21 ?cf21 ?kf21) (mg_of KX G.T.g ?af21)
      (L2.fun_mk ?lf22 ?cf22 ?kf22) (mg_of KX G.T.g ?af22)
      (L2.fun_mk ?lf23 ?cf23 ?kf23) (mg_of KX G.T.g ?af23)
      (L2.fun_mk ?lf24 ?cf24 ?kf24) (mg_of KX G.T.g ?af24)
      (L2.fun_mk ?lf25 ?cf25 ?kf25) (mg_of KX G.T.g ?af25)
      (L2.fun_mk ?lf26 ?cf26 ?kf26) (mg_of KX G.T.g ?af26)
      (L2.fun_mk ?lf27 ?cf27 ?kf27) (mg_of KX G.T.g ?af27)
      (L2.fun_mk ?lf28 ?cf28 ?kf28) (mg_of KX G.T.g ?af28)
      (L2.fun_mk ?lf29 ?cf29 ?kf29) (mg_of KX G.T.g ?af29)
      (L2.fun_mk ?lf30 ?cf30 ?kf30) (mg_of KX G.T.g ?af30)
      (L2.fun_mk ?lf31 ?cf31 ?kf31) (mg_of KX G.T.g ?af31)
      (L2.fun_mk ?lf32 ?cf32 ?kf32) (mg_of KX G.T.g ?af32)
      (L2.fun_mk ?lf33 ?cf33 ?kf33) (mg_of KX G.T.g ?af33)
      (L2.fun_mk ?lf34 ?cf34 ?kf34) (mg_of KX G.T.g ?af34)
      (L2.fun_mk ?lf35 ?cf35 ?kf35) (mg_of KX G.T.g ?af35)
      (L2.fun_mk ?lf36 ?cf36 ?kf36) (mg_of KX G.T.g ?af36)
      (L2.fun_mk ?lf37 ?cf37 ?kf37) (mg_of KX G.T.g ?af37)
      (L2.fun_mk ?lf38 ?cf38 ?kf38) (mg_of KX G.T.g ?af38)
      (L2.fun_mk ?lf39 ?cf39 ?kf39) (mg_of KX G.T.g ?af39)
      (L2.fun_mk ?lf40 ?cf40 ?kf40) (mg_of KX G.T.g ?af40)
      (L2.fun_mk ?lf41 ?cf41 ?kf41) (mg_of KX G.T.g ?af41)
      (L2.fun_mk ?lf42 ?cf42 ?kf42) (mg_of KX G.T.g ?af42)
      (L2.fun_mk ?lf43 ?cf43 ?kf43) (mg_of KX G.T.g ?af43)
      (L2.fun_mk ?lf44 ?cf44 ?kf44) (mg_of KX G.T.g ?af44)
      (L2.fun_mk ?lf45 ?cf45 ?kf45) (mg_of KX G.T.g ?af45)
      (L2.fun_mk ?lf46 ?cf46 ?kf46) (mg_of KX G.T.g ?af46)
      (L2.fun_mk ?lf47 ?cf47 ?kf47) (mg_of KX G.T.g ?af47)
      (L2.fun_mk ?lf48 ?cf48 ?kf48) (mg_of KX G.T.g ?af48)
      (L2.fun_mk ?lf49 ?cf49 ?kf49) (mg_of KX G.T.g ?af49)
      (L2.fun_mk ?lf50 ?cf50 ?kf50) (mg_of KX G.T.g ?af50)
      (L2.fun_mk ?lf51 ?cf51 ?kf51) (mg_of KX G.T.g ?af51)
      (L2.fun_mk ?lf52 ?cf52 ?kf52) (mg_of KX G.T.g ?af52)
      (L2.fun_mk ?lf53 ?cf53 ?kf53) (mg_of KX G.T.g ?af53)
      (L2.fun_mk ?lf54 ?cf54 ?kf54) (mg_of KX G.T.g ?af54) hmg
    (case s0 => k_is)
    (case s1 => k_is)
    (case s2 => k_is)
    (case s3 => k_is)
    (case s4 => k_is)
    (case s5 => k_is)
    (case tapls => k_is)
    (case tlpls => k_is)
    (case taalls => k_is)
    (case tlalls => k_is)
    (case tatps => k_is)
    (case tltps => k_is)
    (case ra => k_is)
    (case rl => k_is)
    (case y0 => k_is)
    (case y1 => k_is)
    (case y2 => k_is)
    (case y3 => k_is)
    (case y4 => k_is)
    (case y5 => k_is)
    (case y6 => k_is)
    (case y7 => k_is)
    (case y8 => k_is)
    (case y9 => k_is)
    (case y10 => k_is)
    (case y11 => k_is)
    (case y12 => k_is)
    (case y13 => k_is)
    (case y14 => k_is)
    (case y15 => k_is)
    (case y16 => k_is)
    (case y17 => k_is)
    (case y18 => k_is)
    (case aC => k_is)
    (case pg => k_is)
    (case hdC => k_is)
    (case po => k_is)
    (case sa => k_is)
    (case n0 => unfold L2.NoAttr; k_is)
    (case n1 => unfold L2.NoAttr; k_is)
    (case n2 => unfold L2.NoAttr; k_is)
    (case n3 => unfold L2.NoAttr; k_is)
    (case aU => k_is)
    (case lU => k_is)
    (case aT => k_is)
    (case lT => k_is)
    (case aS => k_is)
    (case lS => k_is)
    (case aN => k_is)
    (case lN => k_is)
    (case aG => k_is)
    (case lG => k_is)
    (case aZ => k_is)
    (case lZ => k_is)
    (case rU => first | rfl | decide +kernel)
    (case rT => first | rfl | decide +kernel)
    (case rS => first | rfl | decide +kernel)
    (case rN => first | rfl | decide +kernel)
    (case rG => first | rfl | decide +kernel)
    (case rZ => first | rfl | decide +kernel)
    (case saU => k_is)
    (case gaU => k_is)
    (case ggU => k_is)
    (case noU => k_is)
    (case iCU => k_is)
    (case kCU => k_is)
    (case ccU => k_is)
    (case saT => k_is)
    (case gaT => k_is)
    (case ggT => k_is)
    (case noT => k_is)
    (case iCT => k_is)
    (case kCT => k_is)
    (case ccT => k_is)
    (case saS => k_is)
    (case gaS => k_is)
    (case ggS => k_is)
    (case noS => k_is)
    (case iCS => k_is)
    (case kCS => k_is)
    (case ccS => k_is)
    (case saN => k_is)
    (case gaN => k_is)
    (case ggN => k_is)
    (case noN => k_is)
    (case iCN => k_is)
    (case kCN => k_is)
    (case ccN => k_is)
    (case saG => k_is)
    (case gaG => k_is)
    (case ggG => k_is)
    (case noG => k_is)
    (case iCG => k_is)
    (case kCG => k_is)
    (case ccG => k_is)
    (case saZ => k_is)
    (case gaZ => k_is)
    (case ggZ => k_is)
    (case noZ => k_is)
    (case iCZ => k_is)
    (case kCZ => k_is)
    (case ccZ => k_is)
    (case tI => k_is)
    (case hn => k_is)
    (case ht => k_is)
    (case kNS => first | rfl | decide +kernel)
    (case kNT => first | rfl | decide +kernel)
    (case kNN => first | rfl | decide +kernel)
    (case kNG => first | rfl | decide +kernel)
    (case kNZ => first | rfl | decide +kernel)
    (case kGS => first | rfl | decide +kernel)
    (case kGT => first | rfl | decide +kernel)
    (case kGN => first | rfl | decide +kernel)
    (case kGG => first | rfl | decide +kernel)
    (case kGZ => first | rfl | decide +kernel)
    (case kZS => first | rfl | decide +kernel)
    (case kZT => first | rfl | decide +kernel)
    (case kZN => first | rfl | decide +kernel)
    (case kZG => first | rfl | decide +kernel)
    (case kZZ => first | rfl | decide +kernel)
    (case kTS => first | rfl | decide +kernel)
    (case kTT => first | rfl | decide +kernel)
    (case kTN => first | rfl | decide +kernel)
    (case kTG => first | rfl | decide +kernel)
    (case kTZ => first | rfl | decide +kernel)
    (case lf0 => k_is)
    (case cf0 => k_is)
    (case kf0 => k_is)
    (case af1 => k_is)
    (case lf1 => k_is)
    (case cf1 => k_is)
    (case kf1 => k_is)
    (case af2 => k_is)
    (case lf2 => k_is)
    (case cf2 => k_is)
    (case kf2 => k_is)
    (case af3 => k_is)
    (case lf3 => k_is)
    (case cf3 => k_is)
    (case kf3 => k_is)
    (case af4 => k_is)
    (case lf4 => k_is)
    (case cf4 => k_is)
    (case kf4 => k_is)
    (case af5 => k_is)
    (case lf5 => k_is)
    (case cf5 => k_is)
    (case kf5 => k_is)
    (case mk => k_is)
    (case ai6 => k_is)
    (case ii6 => k_is)
    (case kc => k_is)
    (case lf6 => k_is)
    (case cf6 => k_is)
    (case kf6 => k_is)
    (case ai7 => k_is)
    (case ii7 => k_is)
    (case ki7 => k_is)
    (case lf7 => k_is)
    (case cf7 => k_is)
    (case kf7 => k_is)
    (case ai8 => k_is)
    (case ii8 => k_is)
    (case ki8 => k_is)
    (case lf8 => k_is)
    (case cf8 => k_is)
    (case kf8 => k_is)
    (case ai9 => k_is)
    (case ii9 => k_is)
    (case ki9 => k_is)
    (case lf9 => k_is)
    (case cf9 => k_is)
    (case kf9 => k_is)
    (case ai10 => k_is)
    (case ii10 => k_is)
    (case ki10 => k_is)
    (case lf10 => k_is)
    (case cf10 => k_is)
    (case kf10 => k_is)
    (case ai11 => k_is)
    (case ii11 => k_is)
    (case ki11 => k_is)
    (case lf11 => k_is)
    (case cf11 => k_is)
    (case kf11 => k_is)
    (case ai12 => k_is)
    (case ii12 => k_is)
    (case ki12 => k_is)
    (case lf12 => k_is)
    (case cf12 => k_is)
    (case kf12 => k_is)
    (case ai13 => k_is)
    (case ii13 => k_is)
    (case ki13 => k_is)
    (case lf13 => k_is)
    (case cf13 => k_is)
    (case kf13 => k_is)
    (case af14 => k_is)
    (case lf14 => k_is)
    (case cf14 => k_is)
    (case kf14 => k_is)
    (case af15 => k_is)
    (case lf15 => k_is)
    (case cf15 => k_is)
    (case kf15 => k_is)
    (case af16 => k_is)
    (case lf16 => k_is)
    (case cf16 => k_is)
    (case kf16 => k_is)
    (case af17 => k_is)
    (case lf17 => k_is)
    (case cf17 => k_is)
    (case kf17 => k_is)
    (case af18 => k_is)
    (case lf18 => k_is)
    (case cf18 => k_is)
    (case kf18 => k_is)
    (case af19 => k_is)
    (case lf19 => k_is)
    (case cf19 => k_is)
    (case kf19 => k_is)
    (case af20 => k_is)
    (case lf20 => k_is)
    (case cf20 => k_is)
    (case kf20 => k_is)
    (case af21 => k_is)
    (case lf21 => k_is)
    (case cf21 => k_is)
    (case kf21 => k_is)
    (case af22 => k_is)
    (case lf22 => k_is)
    (case cf22 => k_is)
    (case kf22 => k_is)
    (case af23 => k_is)
    (case lf23 => k_is)
    (case cf23 => k_is)
    (case kf23 => k_is)
    (case af24 => k_is)
    (case lf24 => k_is)
    (case cf24 => k_is)
    (case kf24 => k_is)
    (case af25 => k_is)
    (case lf25 => k_is)
    (case cf25 => k_is)
    (case kf25 => k_is)
    (case af26 => k_is)
    (case lf26 => k_is)
    (case cf26 => k_is)
    (case kf26 => k_is)
    (case af27 => k_is)
    (case lf27 => k_is)
    (case cf27 => k_is)
    (case kf27 => k_is)
    (case af28 => k_is)
    (case lf28 => k_is)
    (case cf28 => k_is)
    (case kf28 => k_is)
    (case af29 => k_is)
    (case lf29 => k_is)
    (case cf29 => k_is)
    (case kf29 => k_is)
    (case af30 => k_is)
    (case lf30 => k_is)
    (case cf30 => k_is)
    (case kf30 => k_is)
    (case af31 => k_is)
    (case lf31 => k_is)
    (case cf31 => k_is)
    (case kf31 => k_is)
    (case af32 => k_is)
    (case lf32 => k_is)
    (case cf32 => k_is)
    (case kf32 => k_is)
    (case af33 => k_is)
    (case lf33 => k_is)
    (case cf33 => k_is)
    (case kf33 => k_is)
    (case af34 => k_is)
    (case lf34 => k_is)
    (case cf34 => k_is)
    (case kf34 => k_is)
    (case af35 => k_is)
    (case lf35 => k_is)
    (case cf35 => k_is)
    (case kf35 => k_is)
    (case af36 => k_is)
    (case lf36 => k_is)
    (case cf36 => k_is)
    (case kf36 => k_is)
    (case af37 => k_is)
    (case lf37 => k_is)
    (case cf37 => k_is)
    (case kf37 => k_is)
    (case af38 => k_is)
    (case lf38 => k_is)
    (case cf38 => k_is)
    (case kf38 => k_is)
    (case af39 => k_is)
    (case lf39 => k_is)
    (case cf39 => k_is)
    (case kf39 => k_is)
    (case af40 => k_is)
    (case lf40 => k_is)
    (case cf40 => k_is)
    (case kf40 => k_is)
    (case af41 => k_is)
    (case lf41 => k_is)
    (case cf41 => k_is)
    (case kf41 => k_is)
    (case af42 => k_is)
    (case lf42 => k_is)
    (case cf42 => k_is)
    (case kf42 => k_is)
    (case af43 => k_is)
    (case lf43 => k_is)
    (case cf43 => k_is)
    (case kf43 => k_is)
    (case af44 => k_is)
    (case lf44 => k_is)
    (case cf44 => k_is)
    (case kf44 => k_is)
    (case af45 => k_is)
    (case lf45 => k_is)
    (case cf45 => k_is)
    (case kf45 => k_is)
    (case af46 => k_is)
    (case lf46 => k_is)
    (case cf46 => k_is)
    (case kf46 => k_is)
    (case af47 => k_is)
    (case lf47 => k_is)
    (case cf47 => k_is)
    (case kf47 => k_is)
    (case af48 => k_is)
    (case lf48 => k_is)
    (case cf48 => k_is)
    (case kf48 => k_is)
    (case af49 => k_is)
    (case lf49 => k_is)
    (case cf49 => k_is)
    (case kf49 => k_is)
    (case af50 => k_is)
    (case lf50 => k_is)
    (case cf50 => k_is)
    (case kf50 => k_is)
    (case af51 => k_is)
    (case lf51 => k_is)
    (case cf51 => k_is)
    (case kf51 => k_is)
    (case af52 => k_is)
    (case lf52 => k_is)
    (case cf52 => k_is)
    (case kf52 => k_is)
    (case af53 => k_is)
    (case lf53 => k_is)
    (case cf53 => k_is)
    (case kf53 => k_is)
    (case af54 => k_is)
    (case lf54 => k_is)
    (case cf54 => k_is)
    (case kf54 => k_is)
    (case e0 => first | rfl | decide +kernel)
    (case e1 => first | rfl | decide +kernel)
    (case e2 => first | rfl | decide +kernel)
    (case e3 => first | rfl | decide +kernel)
    (case e4 => first | rfl | decide +kernel)
    (case e5 => first | rfl | decide +kernel)
    (case tzpls => decide +kernel)
    (case tvpls => exact (.cons ⟨_, rfl⟩ (.cons ⟨_, rfl⟩ (.cons ⟨_, rfl⟩ (.cons ⟨_, rfl⟩ (.cons ⟨_, rfl⟩ .nil))))))
    (case tzalls => decide +kernel)
    (case tvalls => exact (.cons ⟨_, rfl⟩ (.cons ⟨_, rfl⟩ .nil)))
    (case tztps => decide +kernel)
    (case tvtps => exact (.cons ⟨_, rfl⟩ (.cons ⟨_, rfl⟩ (.cons ⟨_, rfl⟩ (.cons ⟨_, rfl⟩ (.cons ⟨_, rfl⟩ (.cons ⟨_, rfl⟩ (.cons ⟨_, rfl⟩ (.cons ⟨_, rfl⟩ (.cons ⟨_, rfl⟩ (.cons ⟨_, rfl⟩ (.cons ⟨_, rfl⟩ (.cons ⟨_, rfl⟩ (.cons ⟨_, rfl⟩ .nil))))))))))))))
    (case re => exact (.cons rfl ⟨_, rfl⟩ (.cons rfl ⟨_, rfl⟩ (.cons rfl ⟨_, rfl⟩ (.cons rfl ⟨_, rfl⟩ (.cons rfl ⟨_, rfl⟩ (.cons rfl ⟨_, rfl⟩ (.cons rfl ⟨_, rfl⟩ (.cons rfl ⟨_, rfl⟩ (.cons rfl ⟨_, rfl⟩ (.cons rfl ⟨_, rfl⟩ (.cons rfl ⟨_, rfl⟩ (.cons rfl ⟨_, rfl⟩ (.cons rfl ⟨_, rfl⟩ .nil))))))))))))))
    (case rlow => decide +kernel)
