import PyProof.Rows.All
import Wide.All
import OpenK.AllK
import Wide.FinOn
import KE.KStateDown
import KE.KExcIs
import HandS.ForMost
import HandS.ForExc
import HandS.ExcInit
import HandS.IsInst
import HandS.Flow
import HandS.Defaults
import HandS.Head0
import HandS.Head1
import HandS.Head2
import HandS.HeadEnd
import HandS.HeadHook1
import HandS.HeadHook2
import HandS.ExcValue
import HandS.ExcBuiltin
import HandS.Walk
import PySem.Challenge.RW_landingwires_k00_errors_and_what_they_ke
set_option Elab.async false
set_option linter.all false
set_option maxRecDepth 100000
set_option maxHeartbeats 4000000
/-! Defs that show values (repr): the promise of a def where nothing is being shown around the call. -/
namespace Lw
open PySem PySem.Spec PyProof.Rows L2
/-- a def's promise, wherever no repr runs around it -/
structure FnG (P : Program) (w : World) (K : PySem.W.Frag) (mg : Str → Option Value) (base : Heap) (CX : CXT) (k : Nat) (f : Addr) (fd : FuncData) (ps : List Str) (sp : Sp) : Prop where
  len : ∀ vs H Q E, sp vs H Q E → vs.length = ps.length
  run : ∀ (A : Around) (outer : List Env) (s : Shared) (H : Hp) (args : Args) (us : List Value) (vs : List V) (Q : VK) (E : XK), A.guards = some [] → Room k A →
    Env0 P w K mg base A outer s H → BindsTo s fd args (ps.zip us) → Vals vs us → sp vs H Q E → codeAny (model P w) A (.call (.ref f) args) (CR CX outer P w H s Q E) s
section
variable {P : Program} {w : World} {K : PySem.W.Frag} {mg : Str → Option Value} {base : Heap} {CX : CXT} {k : Nat} {f : Addr} {fd : FuncData} {ps : List Str} {sp : Sp}
theorem FnG.of (F : FnOk P w K mg base CX k f fd ps sp) : FnG P w K mg base CX k f fd ps sp :=
  ⟨F.len, fun A outer s H args us vs Q E _ => F.run A outer s H args us vs Q E⟩
theorem FnG.mono {j : Nat} (F : FnG P w K mg base CX j f fd ps sp) (h : j ≤ k) : FnG P w K mg base CX k f fd ps sp :=
  ⟨F.len, fun A outer s H args us vs Q E hg hr => F.run A outer s H args us vs Q E hg (hr.mono h)⟩
/-- a def of the text by its body, guards known -/
theorem fnG_of {name qual : Str} {params : Arguments} {body : List Stmt} {scope : Scope} {dV kV doc pm cdv ct oc : Value} {an od : Option Addr} {osl : Array (Option Value)} {N : List Str}
    (lk : K.lookup f = some ⟨oc, od, .func (PySem.W.fnOf name qual params body scope dV kV doc pm an cdv ct), osl⟩) (hcd : PySem.W.codeIn K cdv qual = true) (S : FnScope N ps scope)
    (len : ∀ vs H Q E, sp vs H Q E → vs.length = ps.length)
    (hb : ∀ (A : Around) (outer : List Env) (s : Shared) (H : Hp) (vs : List V) (Q : VK) (E : XK), A.guards = some [] → Room k (A.deeper (envOfC qual scope s.heap.objs.size f cdv)) → sp vs H Q E →
      ∃ t, PSs (cxOf CX P w K mg base N qual scope f cdv A outer s H E) body t ∧ t { nx := fun _ H' => Q .non H', rt := Q } (start N vs) H) :
    FnG P w K mg base CX (k + 1) f (PySem.W.fnOf name qual params body scope dV kV doc pm an cdv ct) ps sp := by
  constructor
  · exact len
  intro A outer s H args us vs Q E hg hr e0 hbind rv want
  have old : ∀ b o, base.get? b = some o → s.heap.get? b = some o := fun b o e => (e0.bs b o e).1
  have kin : K.In s.heap := e0.mod.kin.keeps old
  have kinds : ∀ y ∈ ps.zip us, scope.names.lookup y.1 = some .local ∨ (scope.names.lookup y.1 = some .cell ∧ ((cellsFrom (s.heap.objs.size + 1) scope.names []).lookup y.1).isSome = true) := by
    rintro ⟨n, v⟩ hy
    cases S.par n (List.of_mem_zip hy).1 with
    | inl q => exact .inl q
    | inr q => exact .inr ⟨q, PySem.W.cellsFrom_some _ _ _ (.inl q)⟩
  refine codeAny_call_function hr.depth (kin _ _ lk) rfl S.co S.gen rfl (PySem.W.codeRec_of kin hcd) (hbind _ _ _ _ (wpAny_newFunctionEnv_cells S.kind kinds ?_))
  rintro env rfl s1 x
  obtain ⟨t, ht, hq⟩ := hb A outer s H vs Q E hg (hr.deeper _) want
  refine ⟨(e0.mod.nolimit.keeps old).keeps x.toInCall.keep, codeAny_func ?_⟩
  have I := inv_start (CX := CX) (N := N) (E := E) S hr.hd e0 (len _ _ _ _ want) rv x
  refine wpAny_mono (ht.run [] s1 (start N vs) H _ I hq) (fun fl s' hs => ?_) fun _ _ z => z
  cases fl with
  | ret u =>
    obtain ⟨v, σ', H', J, r, q⟩ := hs
    exact ⟨v, H', J.os, J.bare, J.base, J.hok, r, q⟩
  | next =>
    obtain ⟨σ', H', J, q⟩ := hs
    exact ⟨V.non, H', J.os, J.bare, J.base, J.hok, rfl, q⟩
  | brk =>
    obtain ⟨_, _, _, q⟩ := hs
    cases q
  | cont =>
    obtain ⟨_, _, _, q⟩ := hs
    cases q
theorem okG {x qual : Str} {params : Arguments} {body : List Stmt} {scope : Scope} {N : List Str} (F : FunD K x qual params body scope [] [] f fd) (S : FnScope N ps scope) (len : ∀ vs H Q E, sp vs H Q E → vs.length = ps.length)
    (hb : ∀ (cdv : Value) (A : Around) (outer : List Env) (s : Shared) (H : Hp) (vs : List V) (Q : VK) (E : XK), A.guards = some [] → Room k (A.deeper (envOfC qual scope s.heap.objs.size f cdv)) → sp vs H Q E →
      ∃ t, PSs (cxOf CX P w K mg base N qual scope f cdv A outer s H E) body t ∧ t { nx := fun _ H' => Q .non H', rt := Q } (start N vs) H) : FnG P w K mg base CX (k + 1) f fd ps sp := by
  obtain ⟨oc, od, dV, kV, doc, pm, an, cdv, ct, osl, rfl, lk, hcd, _, _⟩ := F.ex
  exact fnG_of lk hcd S len fun A outer s H vs Q E => hb cdv A outer s H vs Q E
end
section
variable {X : Cx} {CX : CXT} {k : Nat} {f : Addr} {fd : FuncData} {ps : List Str} {sp : Sp} {dvs : List V} {ds : List Value} {E : XK} {x : Str} {p pos : Pos} {e : Expr} {es : List Expr} {t : TA}
theorem runG {pins : List (Addr × Obj)} {σ : L2.St} {H : Hp} {s : Shared} {Q : VK} {us : List Value} {vs : List V} (F : FnG X.prog X.w X.K X.mg X.base CX k f fd ps sp) (hg : X.A.guards = some []) (hr : Room k X.A) (hb : Binds X.K fd ps ds) (hd : Vals dvs ds)
    (hx : Passes CX X E) (I : Inv X pins σ H s) (r : Vals vs us) (h : sp (vs ++ dvs) H Q E) : wpAny (model X.prog X.w) X.A (call (.ref f) us) (EP X pins σ Q) X.xe s := by
  have r2 := r.append hd
  have hl : (us ++ ds).length = ps.length := r2.length.symm.trans (F.len _ _ _ _ h)
  refine wpAny_call (codeAny_mono (F.run X.A X.stack s H ⟨us, []⟩ _ _ Q E hg hr I.env0 (hb s us I.kIn hl) r2 h) ?_)
  intro res s' hq
  match res, hq with
  | .error er, hq => exact hx pins σ H s er s' I hq
  | .ok (.ret u), hq => exact I.after hq
  | .ok .next, hq => exact hq.elim
  | .ok .brk, hq => exact hq.elim
  | .ok .cont, hq => exact hq.elim
/-- f(e, ..) -/
theorem pe_callG (F : FnG X.prog X.w X.K X.mg X.base CX k f fd ps sp) (hgd : X.A.guards = some []) (hr : Room k X.A) (hg : Gl X x) (hm : X.mg x = some (.ref f)) (hk : PySem.W.keepIn X.K (.ref f) = true) (hb : Binds X.K fd ps ds) (hd : Vals dvs ds) (hx : Passes CX X E)
    (ha : PA X (e :: es) t) (hdb : (x == ("__debug__" : Str)) = false := by decide) (he : starEach (e :: es) X.env = (false, eval e X.env) :: starEach es X.env := by rfl) (hpl : (backTo pos (starEach es X.env)).any (·.1) = false := by rfl) :
    PE X (.Call (.Name x p) (e :: es) [] pos) (tCall sp dvs E t) :=
  ⟨fun pins s σ H Q I h => wpAny_Call_Name_kw (ld_glob I hg hm (PySem.W.callWith_K (h₀ := X.base) I.ok.mod.kin hk
    (thn (ha.run pos pins s σ H _ I h) fun us s1 ⟨vs, H1, I1, r, q⟩ => ⟨I1.kIn, runG F hgd hr hb hd hx I1 r q⟩) he hpl) hdb)⟩
end
/-! ### repr -/
/-- data: none, bools, ints, texts, lists, tuples, dicts of int and text keys -/
def keyD : Key → PyData
  | .inl i => .int i
  | .inr x => .str x
/-- data without dicts, or a dict of flat values -/
inductive Flat : V → PyData → Prop
  | non : Flat .non .none
  | bl (b : Bool) : Flat (.bl b) (.bool b)
  | int (i : Int) : Flat (.int i) (.int i)
  | str (x : Str) : Flat (.str x) (.str x)
inductive Dr (K : PySem.W.Frag) (H : Hp) : V → PyData → Prop
  | dp {v : V} {d : PyData} : Dp K H v d → Dr K H v d
  | dic {a : Addr} {kvs : List (Key × V)} {ds : List PyData} : H a = some (.dK kvs) → Paired Flat (kvs.map (·.2)) ds → Dr K H (.ref a) (.dict ((kvs.map fun q => keyD q.1).zip ds))

mutual
theorem dp_noDict {K : PySem.W.Frag} {H : Hp} : ∀ (d : PyData) (v : V), Dp K H v d → d.hasDict = false
  | .none, _, _ => rfl
  | .bool _, _, _ => rfl
  | .int _, _, _ => rfl
  | .str _, _, _ => rfl
  | .list ds, _, h => by
    cases h with
    | lst _ ha =>
      rw [PyData.hasDict]
      exact dpAll_noDict ds _ ha
  | .tuple ds, _, h => by
    cases h with
    | tup _ ha =>
      rw [PyData.hasDict]
      exact dpAll_noDict ds _ ha
  | .dict _, _, h => by cases h
theorem dpAll_noDict {K : PySem.W.Frag} {H : Hp} : ∀ (ds : List PyData) (vs : List V), DpAll K H vs ds → PyData.hasDictAll ds = false
  | [], _, _ => rfl
  | d :: ds, _, h => by
    cases h with
    | cons h1 h2 =>
      rw [PyData.hasDictAll, dp_noDict d _ h1, dpAll_noDict ds _ h2]
      rfl
end
theorem reads_keys {P : Program} {w : World} {h : Heap} {es : List DictEntry} {vs : List (Key × Value)} (p : Pairs (mixKind P w) es vs) : ReadsAll h (es.map (·.key)) (vs.map fun q => keyD q.1) [] := by
  induction p with
  | nil => exact .nil
  | @cons e kv es kvs h1 h2 _ ih =>
    have one : Reads h e.key (keyD kv.1) [] := by
      rcases keyIs_shape (show keyIs kv.1 e.key = true from h1) with ⟨i, t, e1, e2⟩ | ⟨x, t, e1, e2⟩
      · rw [e1, e2]
        exact Reads.int i t
      · rw [e1, e2]
        exact Reads.str x t
    exact ReadsAll.cons one ih
theorem reads_flat {h : Heap} : ∀ {ws : List V} {ds : List PyData} {us : List Value}, Paired Flat ws ds → Vals ws us → ReadsAll h us ds []
  | _, _, _, .nil, .nil => .nil
  | _, _, _, .cons f p, .cons r q => by
    refine ReadsAll.cons (as := []) ?_ (reads_flat p q)
    cases f with
    | non => cases r; exact Reads.none
    | bl b => cases r; exact Reads.bool b
    | int i => obtain ⟨t, rfl⟩ := r; exact Reads.int i t
    | str x => obtain ⟨t, rfl⟩ := r; exact Reads.str x t
theorem kv_keys : ∀ {kvs : List (Key × V)} {vs : List (Key × Value)}, KV kvs vs → kvs.map (fun q => keyD q.1) = vs.map fun q => keyD q.1
  | _, _, .nil => rfl
  | _, _, .cons h t => by
    rw [List.map_cons, List.map_cons, kv_keys t, h.1]
theorem kv_vals : ∀ {kvs : List (Key × V)} {vs : List (Key × Value)}, KV kvs vs → Vals (kvs.map (·.2)) (vs.map (·.2))
  | _, _, .nil => .nil
  | _, _, .cons h t => .cons h.2 (kv_vals t)
theorem pairs_vals {P : Program} {w : World} {es : List DictEntry} {vs : List (Key × Value)} (p : Pairs (mixKind P w) es vs) : es.map (·.val) = vs.map (·.2) := by
  induction p with
  | nil => rfl
  | cons _ h2 _ ih => rw [List.map_cons, List.map_cons, ih, h2]
theorem paired_len {α β : Type} {F : α → β → Prop} : ∀ {l : List α} {m : List β}, Paired F l m → l.length = m.length
  | _, _, .nil => rfl
  | _, _, .cons _ t => by rw [List.length_cons, List.length_cons, paired_len t]
section
variable {X : Cx} {pins : List (Addr × Obj)} {σ : L2.St} {H : Hp} {s : Shared}
theorem Dr.reads {v : V} {d : PyData} {u : Value} (I : Inv X pins σ H s) (h : Dr X.K H v d) (r : RelV v u) : ∃ as, Reads s.heap u d as ∧ (d.hasDict = true → sysModules ∉ as) := by
  cases h with
  | dp h =>
    obtain ⟨as, q⟩ := Dp.reads I d v u h r
    refine ⟨as, q, fun z => ?_⟩
    rw [dp_noDict d v h] at z
    cases z
  | @dic a kvs ds ea f =>
    cases (show u = Value.ref a from r)
    obtain ⟨_, ns, vs, kv, o, es, ep, ho, ex, hd, _, pr, _⟩ := (show ObjOk X.prog X.w H s.heap a (.dK kvs) from I.hok a _ ea)
    have l1 : (kvs.map fun q => keyD q.1).length = ds.length := by
      have e := paired_len f
      rw [List.length_map] at e ⊢
      exact e
    refine ⟨_, Reads.dict (as := []) (bs := []) ho ex.1 hd ?_ ?_, fun _ z => ?_⟩
    · rw [List.map_fst_zip (Nat.le_of_eq l1), kv_keys kv]
      exact reads_keys pr
    · rw [List.map_snd_zip (Nat.le_of_eq l1.symm), pairs_vals pr]
      exact reads_flat f (kv_vals kv)
    · rcases List.mem_cons.mp (show sysModules ∈ a :: ([] : List Addr) from z) with e | e
      · rw [← e] at ns
        exact absurd (beq_self_eq_true sysModules) (by rw [ns]; exact Bool.false_ne_true)
      · cases e
end
/-- what repr asks of the data: ints below the digits' line, a text that fits, not too deep -/
structure Shows (d : PyData) (x : Str) : Prop where
  eq : d.shown = x
  sh : d.showable = true
  len : d.shown.length ≤ sizeLine
  dep : d.depth ≤ 60
def rRepr (K : PySem.W.Frag) : List V → Hp → VK → Prop := fun xs H Q => ∃ v d x, xs = [v] ∧ Dr K H v d ∧ Shows d x ∧ Q (.str x) H
theorem call_repr {X : Cx} (hg : X.A.guards = some []) (hu : X.A.units + 61 < cLine) : CallR X (.builtin "repr") (rRepr X.K) := by
  intro pins s σ H xs us Q I r h
  obtain ⟨v, d, x, rfl, hd, ⟨rfl, h1, h2, h3⟩, q⟩ := h
  obtain ⟨u, rfl, ru⟩ := r.one
  obtain ⟨as, rd, hsys⟩ := hd.reads I ru
  cases rd with
  | none => exact PySem.P.repr_of_none ⟨.str _, H, I.tok _, ⟨_, rfl⟩, q⟩
  | bool b => exact PySem.P.repr_of_bool ⟨.str _, H, I.tok _, ⟨_, rfl⟩, q⟩
  | int i t => exact PySem.P.repr_of_int (by simpa [PyData.showable] using h1) ⟨.str _, H, I.tok _, ⟨_, rfl⟩, q⟩
  | str y t => exact PySem.P.repr_of_str ⟨.str _, H, I.tok _, ⟨_, rfl⟩, q⟩ h2
  | list a1 a2 a3 a4 => exact repr_of_reads' (Reads.list a1 a2 a3 a4) h1 hsys hg (by omega) (fun _ _ z => z) (fun h' t tk k => ⟨.str _, H, I.kept (t' := tk) k, ⟨_, rfl⟩, q⟩) h2
  | tuple a1 a2 a3 a4 => exact repr_of_reads' (Reads.tuple a1 a2 a3 a4) h1 hsys hg (by omega) (fun _ _ z => z) (fun h' t tk k => ⟨.str _, H, I.kept (t' := tk) k, ⟨_, rfl⟩, q⟩) h2
  | dict a1 a2 a3 a4 a5 => exact repr_of_reads' (Reads.dict a1 a2 a3 a4 a5) h1 hsys hg (by omega) (fun _ _ z => z) (fun h' t tk k => ⟨.str _, H, I.kept (t' := tk) k, ⟨_, rfl⟩, q⟩) h2
end Lw

set_option Elab.async false
set_option linter.all false
set_option maxRecDepth 100000
set_option maxHeartbeats 4000000
/-! Own exceptions with one field, made, held and looked at as values. -/
namespace Lw
open PySem PySem.Spec PyProof.Rows L2
/-- the class at C stands over ValueError, with a dict, without a __del__ -/
def oexB (K : PySem.W.Frag) (C : Addr) : Bool := match K.lookup C with
  | some ⟨.type "type", _, .cls cd, sl⟩ =>
    (match cd.mro, sl.toList with
    | .ref D :: bm, [_, _, _, _, some (.builtin n), _] => (D == C && n == "ValueError.__new__") && ((!cd.hasDel && cd.hasDict) && PySem.HandSPX.refsVE bm)
    | _, _ => false)
  | _ => false
theorem oexB_ok {K : PySem.W.Frag} {C : Addr} (h : oexB K C = true) :
    ∃ nm q N bs bm sn sub ab col dd k0 k1 k2 k3 k5, K.lookup C = some (excClassObj nm q C N bs bm true sn sub ab col dd k0 k1 k2 k3 k5 "ValueError.__new__") ∧ PySem.HandSPX.refsVE bm = true := by
  unfold oexB at h
  split at h
  case h_2 => cases h
  case h_1 dd cd sl ho =>
    split at h
    case h_2 => cases h
    case h_1 D bm k0 k1 k2 k3 n k5 hm hs =>
      obtain ⟨nm, bs, mro, ns, qn, hd, sn, sub, ab, col, del⟩ := cd
      dsimp only at hm h
      simp only [Bool.and_eq_true, beq_iff_eq, Bool.not_eq_true'] at h
      obtain ⟨⟨rfl, rfl⟩, ⟨rfl, rfl⟩, hr⟩ := h
      subst hm
      have e : sl = #[k0, k1, k2, k3, some (.builtin "ValueError.__new__"), k5] := by
        rw [← hs]
      subst e
      exact ⟨nm, qn, ns, bs, bm, sn, sub, ab, col, dd, k0, k1, k2, k3, k5, ho, hr⟩
/-- what is asked of the class of an exception that is held -/
structure XcC (K : PySem.W.Frag) (C : Addr) : Prop where
  ox : OexC K C
  ic : (PySem.W.clsIn K C).isSome = true
  hd : PySem.W.hasDictIn K C = true
  ga : PySem.W.findIn K (.ref C) "__getattribute__" = some (some (.builtin "BaseException.__getattribute__"))
  gg : PySem.W.findIn K (.ref C) "__getattr__" = some none
  nv : PySem.W.findIn K (.ref C) "value" = some none
  ca : PySem.W.findIn K (.ref C) "__class__" = some (some (.builtin "object.__class__"))
  cn : PySem.W.specialIn K (.builtin "object.__class__") "__get__" = some (some (.builtin "getset_descriptor.__get__"))
  ct : PySem.W.takesIn K (.builtin "object.__class__") = some true
  cm : PySem.W.mroIn K C (.type "object") = some true
def xcB (K : PySem.W.Frag) (C : Addr) : Bool := oexB K C && (He.eqO (PySem.W.findIn K (.ref C) "__setattr__") (some (some (.builtin "object.__setattr__"))) && (decide (PySem.W.subIn K (.ref C) (.type "BaseException") = some true) &&
  (decide (PySem.W.typeIn K (.ref C) = some (.type "type")) && (PySem.W.keepIn K (.ref C) && ((PySem.W.clsIn K C).isSome && (PySem.W.hasDictIn K C && (He.eqO (PySem.W.findIn K (.ref C) "__getattribute__") (some (some (.builtin "BaseException.__getattribute__"))) &&
  (He.eqO (PySem.W.findIn K (.ref C) "__getattr__") (some none) && (He.eqO (PySem.W.findIn K (.ref C) "value") (some none) && (He.eqO (PySem.W.findIn K (.ref C) "__class__") (some (some (.builtin "object.__class__"))) &&
  (He.eqO (PySem.W.specialIn K (.builtin "object.__class__") "__get__") (some (some (.builtin "getset_descriptor.__get__"))) && (decide (PySem.W.takesIn K (.builtin "object.__class__") = some true) && decide (PySem.W.mroIn K C (.type "object") = some true)))))))))))))
theorem xcB_ok {K : PySem.W.Frag} {C : Addr} (h : xcB K C = true) : XcC K C := by
  unfold xcB at h
  simp only [Bool.and_eq_true, decide_eq_true_eq] at h
  obtain ⟨h1, h2, h3, h4, h5, h6, h7, h8, h9, h10, h11, h12, h13, h14⟩ := h
  exact ⟨⟨oexB_ok h1, He.eqO_ok h2, h3, h4, h5⟩, h6, h7, He.eqO_ok h8, He.eqO_ok h9, He.eqO_ok h10, He.eqO_ok h11, He.eqO_ok h12, h13, h14⟩
/-- an exception of the class at C stands at a, its value v -/
def ErrAt (H : Hp) (a C : Addr) (v : V) : Prop := ∃ d, H a = some (exo a C (some d)) ∧ H d = some (exd d [("value", v)])
theorem ErrAt.same {H H' : Hp} {a C : Addr} {v : V} (h : ErrAt H a C v) (s : Same H H') : ErrAt H' a C v := by
  obtain ⟨d, h1, h2⟩ := h
  exact ⟨d, s _ _ h1, s _ _ h2⟩
section
variable {X : Cx} {pins : List (Addr × Obj)} {σ : L2.St} {H : Hp} {s : Shared} {a C : Addr} {v : V}
theorem err_inst (I : Inv X pins σ H s) (h : ErrAt H a C v) : ∃ ox od, PySem.W.InstAt s.heap a ox C (some od) ∧ ∃ u, PySem.W.lookIn "value" od = some (some u) ∧ RelV v u := by
  obtain ⟨d, h1, h2⟩ := h
  obtain ⟨t, ho⟩ := exo_at I.hok h1
  obtain ⟨m, hns, r⟩ := exd_at I.hok h2
  obtain ⟨od, hd, hl⟩ := lookIn_ns hns
  have l : List.lookup ("value" : Str) [(("value" : Str), v)] = some v := by simp [List.lookup]
  obtain ⟨u, hu, ru⟩ := RelO.some_of (v := v) (o := m "value") (by rw [← l]; exact r "value")
  exact ⟨_, od, ⟨ho, rfl, rfl, hd⟩, u, by rw [hl, hu], ru⟩
end
/-- isinstance(e, C) -/
def rIsX (K : PySem.W.Frag) : List V → Hp → VK → Prop := fun xs H Q => ∃ (a C : Addr) (v c : V) (u : Value) (b : Bool), xs = [.ref a, c] ∧ ErrAt H a C v ∧ XcC K C ∧ ClsV c u ∧ PySem.W.kitOne K (.ref C) u = some b ∧ Q (.bl b) H
theorem call_isX {X : Cx} : CallR X (.builtin "isinstance") (rIsX X.K) := by
  intro pins s σ H xs us Q I r h
  obtain ⟨a, C, v, c, u, b, rfl, he, T, k, e, q⟩ := h
  obtain ⟨u1, u2, rfl, r1, r2⟩ := vals2 r
  cases (show u1 = Value.ref a from r1)
  have e2 := k.eq r2
  subst e2
  obtain ⟨ox, od, J, _⟩ := err_inst I he
  exact PySem.W.kia_one (PySem.W.kitx_exc T.ic T.ga T.gg T.ox.exC T.ca T.cn T.ct T.cm) I.kIn J e (fun z => nomatch z) fun tk => ⟨.bl b, H, I.tok tk, rfl, q⟩
/-- e.value -/
def tXv (K : PySem.W.Frag) (te : TE) : TE := fun σ H Q => te σ H fun x H1 => ∃ (a C : Addr) (v : V), x = .ref a ∧ ErrAt H1 a C v ∧ XcC K C ∧ Q v H1
theorem pe_xv {X : Cx} {e : Expr} {te : TE} {pos : Pos} (he : PE X e te) (hb : attributeBase e "value" X.env (eval e X.env) = eval e X.env := by rfl) : PE X (.Attribute e "value" pos) (tXv X.K te) := by
  refine ⟨fun pins s σ H Q I h => attr_of hb (thn (he.run pins s σ H _ I h) fun u s1 hh => ?_)⟩
  obtain ⟨x, H1, I1, rx, a, C, v, rfl, ea, T, q⟩ := hh
  cases (show u = Value.ref a from rx)
  obtain ⟨ox, od, J, z, hz, rz⟩ := err_inst I1 ea
  exact PySem.HandSPX.exc_get I1.kIn J T.ga T.gg T.ox.exC (PySem.W.findObj_own T.hd T.nv rfl hz) (handed_of rz) ⟨v, H1, I1.tok _, rz, q⟩
/-- C(e, ..) as a value, C's __init__ keeping sp -/
def tMkV (C : Addr) (sp : Sp) (dvs : List V) (E : XK) (ta : TA) : TE := fun σ H Q => ta σ H fun vs H1 => vs.length ≤ 1000 ∧ ∀ a, H1 a = none → sp (.ref a :: (vs ++ dvs)) (upd H1 a (exo a C none)) (fun v H2 => v = .non ∧ Q (.ref a) H2) E
theorem pe_mkV {X : Cx} {e : Expr} {es : List Expr} {ta : TA} {p pos : Pos} {CX : CXT} {x : Str} {C fI : Addr} {k : Nat} {fd : FuncData} {ps : List Str} {sp : Sp} {ds : List Value} {dvs : List V} {E : XK} (T : OexC X.K C)
    (iC : PySem.W.findIn X.K (.ref C) "__init__" = some (some (.ref fI))) (tI : PySem.W.typeIn X.K (.ref fI) = some (.type "function")) (F1 : FnOk X.prog X.w X.K X.mg X.base CX k fI fd ps sp) (hr : Room (k + 1) X.A) (hb : Binds X.K fd ps ds)
    (hd : Vals dvs ds) (hx : Passes CX X E) (hg : Gl X x) (hm : X.mg x = some (.ref C)) (ha : PA X (e :: es) ta)
    (hdb : (x == ("__debug__" : Str)) = false := by decide) (he : starEach (e :: es) X.env = (false, eval e X.env) :: starEach es X.env := by rfl) (hpl : (backTo pos (starEach es X.env)).any (·.1) = false := by rfl) :
    PE X (.Call (.Name x p) (e :: es) [] pos) (tMkV C sp dvs E ta) := by
  refine ⟨fun pins s σ H Q I h => wpAny_Call_Name_kw (ld_glob I hg hm (PySem.W.callWith_K (h₀ := X.base) I.ok.mod.kin T.kC (thn (ha.run pos pins s σ H _ I h) fun us s1 hh => ?_) he hpl) hdb)⟩
  obtain ⟨vs, H1, I1, r1, hz, q1⟩ := hh
  refine ⟨I1.kIn, ?_⟩
  obtain ⟨nm, q, N, bs, bm, sn, sub, ab, col, dd, k0, k1, k2, k3, k5, hC, hbm⟩ := T.cls
  obtain ⟨hp, g, dr, tk, os⟩ := s1
  show wpAny _ _ (call (.ref C) us) _ _ _
  have big : hp.objs.size ≤ hp.objs.size + 1 := Nat.le_succ _
  have hq := q1 (hp.objs.size + 1) (I1.hok.fresh big)
  have at_ : ((hp.push (PySem.W.kdv_tup us)).push (PySem.HandSPX.excO C hp.objs.size)).get? (hp.objs.size + 1) = some (PySem.HandSPX.excO C hp.objs.size) := by heap_get
  have I2 : Inv X pins σ (upd H1 (hp.objs.size + 1) (exo (hp.objs.size + 1) C none)) ⟨(hp.push (PySem.W.kdv_tup us)).push (PySem.HandSPX.excO C hp.objs.size), g, dr, tk, os⟩ :=
    I1.laid (t' := tk) (fun b o z => Heap.get?_push_of_some _ (Heap.get?_push_of_some _ z)) big (exo_ok at_)
  have r2 : Vals (V.ref (hp.objs.size + 1) :: (vs ++ dvs)) (Value.ref (hp.objs.size + 1) :: us ++ ds) := Paired.cons rfl (r1.append hd)
  have hl : (Value.ref (hp.objs.size + 1) :: us ++ ds).length = ps.length := r2.length.symm.trans (F1.len _ _ _ _ hq)
  have hus : us.length ≤ sizeLine := by
    have e1 := Paired.length r1
    rw [sizeLine_eq]
    omega
  refine wpAny_call (PySem.HandSPX.call_own F.excBase_ValueError (fun Y => PySem.HandSPX.refsVE_contains Y bm hbm) (I1.kIn _ _ hC) (PySem.W.looks_findIn I1.kIn iC) (fun self => PySem.W.bind_fn I1.kIn self tI) hus ?_)
  refine codeAny_mono (F1.run _ X.stack _ _ ⟨Value.ref (hp.objs.size + 1) :: us, []⟩ _ _ _ E (hr.make C us []) (I2.env0.make C us []) (hb _ (Value.ref (hp.objs.size + 1) :: us) I2.kIn hl) r2 hq) fun res s' hs => ?_
  match res, hs with
  | .error er, hs => exact hx pins σ _ _ er s' I2 hs
  | .ok (.ret u), hs =>
    obtain ⟨v, H3, I3, rv, rfl, q3⟩ := I2.after hs
    exact ⟨rv, ⟨.ref (hp.objs.size + 1), H3, I3, rfl, q3⟩⟩
  | .ok .next, hs => exact hs.elim
  | .ok .brk, hs => exact hs.elim
  | .ok .cont, hs => exact hs.elim
/-- ValueError(e) as a value -/
theorem pe_veV {X : Cx} {x : Str} {e : Expr} {t : TA} {p pos : Pos} (hg : Gl X x) (hm : X.mg x = none) (hv : bootBuiltins x = some (.type "ValueError")) (ha : PA X [e] t) (hn : x ≠ "__name__" := by decide) (hdb : (x == ("__debug__" : Str)) = false := by decide)
    (he : starEach [e] X.env = (false, eval e X.env) :: starEach [] X.env := by rfl) (hpl : (backTo pos (starEach [] X.env)).any (·.1) = false := by rfl) :
    PE X (.Call (.Name x p) [e] [] pos) (fun σ H Q => t σ H fun vs H1 => vs.length ≤ sizeLine ∧ ∀ a, H1 a = none → Q (.ref a) (upd H1 a (ExO (.type "ValueError") a))) := by
  refine ⟨fun pins s σ H Q J h => wpAny_Call_Name_kw (ld_blt J hg hm hv (PyProof.Rows.callWith_type1 (thn (ha.run pos pins s σ H _ J h) fun us s1 hh => ?_) he hpl) hn hdb)⟩
  obtain ⟨vs, H1, I1, r1, q0, q1⟩ := hh
  obtain ⟨hp1, g1, d1, tk1, os1⟩ := s1
  refine wpAny_call_exc exb_ValueError.call (fun h' a mk => ?_) (Nat.le_trans (Nat.le_of_eq r1.length.symm) q0)
  have m2 := PySem.Heap.MadeExc.of mk
  obtain ⟨t0, ht, _, _⟩ := m2.there
  have hn := I1.hok.gone m2.new
  exact ⟨.ref a, _, I1.laidN m2.keeps m2.new hn (exO_ok ht ⟨rfl, rfl⟩ rfl rfl rfl (show 4 < 6 by decide)), rfl, q1 a hn⟩
/-- isinstance(e, C), e such a ValueError -/
def rIsV (K : PySem.W.Frag) : List V → Hp → VK → Prop := fun xs H Q => ∃ (a : Addr) (c : V) (u : Value) (b : Bool), xs = [.ref a, c] ∧ H a = some (ExO (.type "ValueError") a) ∧ ClsV c u ∧ PySem.W.kitOne K (.type "ValueError") u = some b ∧ Q (.bl b) H
theorem call_isV {X : Cx} : CallR X (.builtin "isinstance") (rIsV X.K) := by
  intro pins s σ H xs us Q I r h
  obtain ⟨a, c, u, b, rfl, he, k, e, q⟩ := h
  obtain ⟨u1, u2, rfl, r1, r2⟩ := vals2 r
  cases (show u1 = Value.ref a from r1)
  have e2 := k.eq r2
  subst e2
  obtain ⟨⟨oe, vs, ho, hz, _⟩, _, _⟩ := I.hok a _ he
  exact PySem.W.kia_one (PySem.W.kitx_bexc PySem.F.excAttr_ValueError F.lkClass_ValueError F.soClass_ValueError (by decide +kernel)) I.kIn ⟨oe, ho, hz.1⟩ e (fun z => nomatch z) fun tk => ⟨.bl b, H, I.tok tk, rfl, q⟩
end Lw
namespace Lw
open PySem PySem.Spec PyProof.Rows L2
/-- what the one __init__ does: the field value, and no more -/
def spInit (K : PySem.W.Frag) : Sp := fun vs H Q _ => ∃ (a C : Addr) (v : V), vs = [.ref a, v] ∧ OexC K C ∧ PySem.W.findIn K (.ref C) "value" = some none ∧ H a = some (exo a C none) ∧
  ∀ H' : Hp, ErrAt H' a C v → (∀ b o, H b = some o → b ≠ a → H' b = some o) → Q .non H'
theorem init_reads {K : PySem.W.Frag} {vs : List V} {H : Hp} {Q : VK} {E : XK} (h : spInit K vs H Q E) : tOst K "value" (tVar 0) (tVar 1) { nx := fun _ H' => Q .non H', rt := Q } (start ["self", "value"] vs) H := by
  obtain ⟨a, C, v, rfl, T, hno, ea, k⟩ := h
  refine ⟨_, rfl, _, rfl, a, C, rfl, T, hno, .inl ⟨ea, fun dx n ne => k _ ⟨dx, upd_same, ?_⟩ fun b o e hb => ?_⟩⟩
  · rw [upd_ne ne]
    exact upd_same
  · rw [upd_ne hb, upd_ne (ne_of_none e n)]
    exact e
/-- a new exception of the class at C, its value what the name in slot i holds -/
theorem mk_reads {K : PySem.W.Frag} {C : Addr} {i : Nat} {σ : L2.St} {H : Hp} {Q : VK} {v : V} (T : XcC K C) (hσ : σ[i]? = some (some v)) (h : ∀ a H', H a = none → ErrAt H' a C v → Same H H' → Q (.ref a) H') :
    tMkV C (spInit K) [] E0 (tCons (tVar i) tNil) σ H Q := by
  refine ⟨v, hσ, (by show 1 ≤ 1000; decide), fun a na => ⟨a, C, v, rfl, T.ox, T.nv, upd_same, fun H' e k => ⟨rfl, h a H' na e fun b o eb => ?_⟩⟩⟩
  have hb : b ≠ a := ne_of_none eb na
  exact k b o (by rw [upd_ne hb]; exact eb) hb
/-- several of them, one behind the other -/
def tMks (K : PySem.W.Frag) (i : Nat) : List Str → TA
  | [] => tNil
  | x :: r => tCons (tMkV (He.ga K x) (spInit K) [] E0 (tCons (tVar i) tNil)) (tMks K i r)
theorem mks_reads {K : PySem.W.Frag} {i : Nat} {σ : L2.St} {v : V} (hσ : σ[i]? = some (some v)) : ∀ (xs : List Str) {H : Hp} {Q : List V → Hp → Prop}, (∀ x ∈ xs, XcC K (He.ga K x)) →
    (∀ (as : List Addr) (H' : Hp), Same H H' → Paired (fun a x => ErrAt H' a (He.ga K x) v) as xs → Q (as.map V.ref) H') → tMks K i xs σ H Q
  | [], H, Q, _, h => h [] H (Same.refl H) .nil
  | x :: r, H, Q, hT, h => by
    show tMkV (He.ga K x) (spInit K) [] E0 (tCons (tVar i) tNil) σ H fun y H1 => tMks K i r σ H1 fun ys H2 => Q (y :: ys) H2
    refine mk_reads (hT x List.mem_cons_self) hσ fun a H1 _ e s1 => ?_
    refine mks_reads hσ r (fun y hy => hT y (List.mem_cons_of_mem _ hy)) fun as H2 s2 p => ?_
    exact h (a :: as) H2 (s1.trans s2) (.cons (e.same s2) p)
/-- what isinstance(the value at a, the class u) tells -/
def IsB (K : PySem.W.Frag) (H : Hp) (a : Addr) (u : Value) (b : Bool) : Prop := (∃ (C : Addr) (v : V), ErrAt H a C v ∧ XcC K C ∧ PySem.W.kitOne K (.ref C) u = some b) ∨ (H a = some (ExO (.type "ValueError") a) ∧ PySem.W.kitOne K (.type "ValueError") u = some b)
theorem IsB.same {K : PySem.W.Frag} {H H' : Hp} {a : Addr} {u : Value} {b : Bool} (h : IsB K H a u b) (s : Same H H') : IsB K H' a u b := by
  rcases h with ⟨C, v, e, T, k⟩ | ⟨e, k⟩
  · exact .inl ⟨C, v, e.same s, T, k⟩
  · exact .inr ⟨s _ _ e, k⟩
def rIsB (K : PySem.W.Frag) : List V → Hp → VK → Prop := fun xs H Q => ∃ (a : Addr) (c : V) (u : Value) (b : Bool), xs = [.ref a, c] ∧ ClsV c u ∧ IsB K H a u b ∧ Q (.bl b) H
theorem call_isB {X : Cx} : CallR X (.builtin "isinstance") (rIsB X.K) := by
  intro pins s σ H xs us Q I r h
  obtain ⟨a, c, u, b, rfl, k, hb, q⟩ := h
  rcases hb with ⟨C, v, e, T, kt⟩ | ⟨e, kt⟩
  · exact call_isX pins s σ H _ us Q I r ⟨a, C, v, c, u, b, rfl, e, T, k, kt, q⟩
  · exact call_isV pins s σ H _ us Q I r ⟨a, c, u, b, rfl, e, k, kt, q⟩
/-- isinstance(the name in slot i, X) for several X, one behind the other -/
def tIss (K : PySem.W.Frag) (i : Nat) : List Str → TA
  | [] => tNil
  | x :: r => tCons (tCB (rIsB K) (tCons (tVar i) (tCons (tC (.ref (He.ga K x))) tNil))) (tIss K i r)
theorem iss_reads {K : PySem.W.Frag} {i : Nat} {σ : L2.St} {a : Addr} (hσ : σ[i]? = some (some (.ref a))) : ∀ {bs : List Bool} {xs : List Str} {H : Hp} {Q : List V → Hp → Prop}, Paired (fun b x => IsB K H a (.ref (He.ga K x)) b) bs xs →
    Q (bs.map V.bl) H → tIss K i xs σ H Q
  | _, _, H, Q, .nil, h => h
  | b :: bs, x :: xs, H, Q, .cons e p, h => ⟨_, hσ, a, _, _, b, rfl, .own _, e, iss_reads hσ p h⟩
/-- xs.extend([..]) several times, then return xs -/
def tExts (K : PySem.W.Frag) (tel : List Str → TA) : List (List Str) → TS
  | [] => tRet (tVar 1)
  | g :: r => tSeq (tDrop (tBM K "list" rExtend (tVar 1) (tCons (tLst (tel g)) tNil))) (tExts K tel r)
end Lw
namespace Lw
open PySem PySem.Spec PyProof.Rows L2
theorem exo_lst {e C : Addr} {d : Option Addr} {xs : List V} : exo e C d ≠ .lst xs := fun z => by
  have z' : HO.ext _ = HO.lst xs := z
  cases z'
theorem exd_lst {e : Addr} {fs : List (Str × V)} {xs : List V} : exd e fs ≠ .lst xs := fun z => by
  have z' : HO.ext _ = HO.lst xs := z
  cases z'
theorem ErrAt.but {H H' : Hp} {a C l : Addr} {v : V} {xs : List V} (h : ErrAt H a C v) (hl : H l = some (.lst xs)) (k : ∀ b o, H b = some o → b ≠ l → H' b = some o) : ErrAt H' a C v := by
  obtain ⟨d, h1, h2⟩ := h
  exact ⟨d, k _ _ h1 (ne_of h1 hl exo_lst), k _ _ h2 (ne_of h2 hl exd_lst)⟩
theorem paired_map {α β : Type} {F G : α → β → Prop} (h : ∀ a b, F a b → G a b) : ∀ {l : List α} {m : List β}, Paired F l m → Paired G l m
  | _, _, .nil => .nil
  | _, _, .cons r t => .cons (h _ _ r) (paired_map h t)
theorem paired_app {α β : Type} {F : α → β → Prop} : ∀ {l l' : List α} {m m' : List β}, Paired F l m → Paired F l' m' → Paired F (l ++ l') (m ++ m')
  | _, _, _, _, .nil, h => h
  | _, _, _, _, .cons r t, h => .cons r (paired_app t h)
theorem paired_split {α β : Type} {F : α → β → Prop} : ∀ {m m' : List β} {l : List α}, Paired F l (m ++ m') → ∃ l1 l2, l = l1 ++ l2 ∧ Paired F l1 m ∧ Paired F l2 m'
  | [], _, l, q => ⟨[], l, rfl, .nil, q⟩
  | _ :: m, _, _ :: _, .cons r t => by
    obtain ⟨l1, l2, e, q1, q2⟩ := paired_split (m := m) t
    exact ⟨_ :: l1, l2, by rw [e]; rfl, .cons r q1, q2⟩
theorem lst_first {te : TA} {rest : TS} {D : Ends} {v : V} {H : Hp} (h : te [some v, none] H fun xs H1 => xs.length ≤ sizeLine ∧ ∀ p, H1 p = none → rest D [some v, some (.ref p)] (upd H1 p (.lst xs))) : tSeq (tAsg (tLst te) (gName 1)) rest D [some v, none] H := h
theorem exts_made {K : PySem.W.Frag} {v : V} {l : Addr} {H0 : Hp} {D : Ends} (h0 : H0 l = none) : ∀ (gs : List (List Str)) {H : Hp} {as : List Addr} {done : List Str}, H l = some (.lst (as.map V.ref)) → Same H0 H → Paired (fun a x => ErrAt H a (He.ga K x) v) as done →
    (∀ g ∈ gs, ∀ x ∈ g, XcC K (He.ga K x)) → (∀ g ∈ gs, g.length ≤ 100) → done.length + 100 * gs.length ≤ 10000 →
    (∀ (as' : List Addr) (H' : Hp), H' l = some (.lst (as'.map V.ref)) → Same H0 H' → Paired (fun a x => ErrAt H' a (He.ga K x) v) as' (done ++ gs.flatten) → D.rt (.ref l) H') →
    tExts K (tMks K 0) gs D [some v, some (.ref l)] H
  | [], H, as, done, hl, s0, p, _, _, _, k => ⟨_, rfl, k as H hl s0 (by rw [List.flatten_nil, List.append_nil]; exact p)⟩
  | g :: gs, H, as, done, hl, s0, p, hT, hg, hn, k => by
    refine ⟨_, rfl, Or.inl ⟨rfl, _, Or.inl (Or.inl hl)⟩, ?_⟩
    have big : (100000 : Nat) ≤ sizeLine := by rw [sizeLine_eq]; omega
    have g1 := hg g List.mem_cons_self
    have e1 := paired_len p
    rw [List.length_cons] at hn
    refine mks_reads rfl g (hT g List.mem_cons_self) fun as2 H2 s2 p2 => ?_
    have e2 := paired_len p2
    refine ⟨by rw [List.length_map]; omega, fun q hq => ?_⟩
    have hl2 := s2 _ _ hl
    have nlq : l ≠ q := ne_of_none hl2 hq
    refine ⟨l, q, as.map V.ref, as2.map V.ref, rfl, rfl, by rw [upd_ne nlq]; exact hl2, upd_same, by rw [List.length_map, List.length_map]; omega, ?_⟩
    have kb : ∀ b o, H2 b = some o → b ≠ l → upd (upd H2 q (.lst (as2.map V.ref))) l (.lst (as.map V.ref ++ as2.map V.ref)) b = some o := fun b o e hb => by
      rw [upd_ne hb, upd_ne (ne_of_none e hq)]
      exact e
    refine exts_made h0 gs (as := as ++ as2) (done := done ++ g) (by rw [upd_same, List.map_append]) (fun b o e => kb b o (s2 _ _ (s0 _ _ e)) (ne_of_none e h0)) (paired_app (paired_map (fun a x h => (h.same s2).but hl2 kb) p) (paired_map (fun a x h => h.but hl2 kb) p2))
      (fun g' h' => hT g' (List.mem_cons_of_mem _ h')) (fun g' h' => hg g' (List.mem_cons_of_mem _ h')) (by rw [List.length_append]; omega) fun as' H' a1 a2 a3 => k as' H' a1 a2 ?_
    rw [List.flatten_cons, ← List.append_assoc]
    exact a3
theorem exts_iss {K : PySem.W.Frag} {a l : Addr} {H0 : Hp} {D : Ends} (h0 : H0 l = none) : ∀ (gs : List (List Str)) {H : Hp} {bs cs : List Bool}, H l = some (.lst (bs.map V.bl)) → Same H0 H → Paired (fun b x => IsB K H0 a (.ref (He.ga K x)) b) cs gs.flatten →
    bs.length + cs.length ≤ 10000 → (∀ H' : Hp, H' l = some (.lst ((bs ++ cs).map V.bl)) → Same H0 H' → D.rt (.ref l) H') → tExts K (tIss K 0) gs D [some (.ref a), some (.ref l)] H
  | [], H, bs, cs, hl, s0, p, _, k => by
    cases p
    refine ⟨_, rfl, k H ?_ s0⟩
    rw [List.append_nil]
    exact hl
  | g :: gs, H, bs, cs, hl, s0, p, hn, k => by
    have big : (100000 : Nat) ≤ sizeLine := by rw [sizeLine_eq]; omega
    obtain ⟨c1, c2, rfl, p1, p2⟩ := paired_split (m := g) (m' := gs.flatten) (by rw [← List.flatten_cons]; exact p)
    rw [List.length_append] at hn
    refine ⟨_, rfl, Or.inl ⟨rfl, _, Or.inl (Or.inl hl)⟩, ?_⟩
    refine iss_reads rfl (paired_map (fun b x h => h.same s0) p1) ⟨by rw [List.length_map]; omega, fun q hq => ?_⟩
    have nlq : l ≠ q := ne_of_none hl hq
    refine ⟨l, q, bs.map V.bl, c1.map V.bl, rfl, rfl, by rw [upd_ne nlq]; exact hl, upd_same, by rw [List.length_map, List.length_map]; omega, ?_⟩
    refine exts_iss h0 gs (bs := bs ++ c1) (cs := c2) (by rw [upd_same, List.map_append]) (fun b o e => ?_) p2 (by rw [List.length_append]; omega) fun H' a1 a2 => k H' (by rw [← List.append_assoc]; exact a1) a2
    rw [upd_ne (ne_of_none e h0), upd_ne (ne_of_none (s0 _ _ e) hq)]
    exact s0 _ _ e
end Lw

set_option Elab.async false
set_option linter.all false
set_option maxRecDepth 100000
set_option maxHeartbeats 4000000
/-! A law whose def shows values; data under a growing heap. -/
namespace Lw
open PySem PySem.Spec PyProof.Rows L2
theorem ifF {c : Bool} {A B : Prop} (hc : c = false) (h : B) : if c = true then A else B := by
  subst hc
  exact iteF h
theorem ifT {c : Bool} {A B : Prop} (hc : c = true) (h : A) : if c = true then A else B := by
  subst hc
  exact iteT h
theorem set_reads {te : TE} {i : Nat} {D : Ends} {σ : L2.St} {H : Hp} (h : te σ H fun v H1 => D.nx (σ.set i (some v)) H1) : tAsg te (gName i) D σ H := h
theorem seq_reads {t u : TS} {D : Ends} {σ : L2.St} {H : Hp} (h : t { D with nx := fun σ' H' => u D σ' H' } σ H) : tSeq t u D σ H := h
theorem sqT_same {K : PySem.W.Frag} {H H' : Hp} {a : Addr} {xs : List V} (e : Same H H') (h : SqT K H a xs) : SqT K H' a xs := by
  rcases h with (h | ⟨o, h⟩) | h
  · exact .inl (.inl (e _ _ h))
  · exact .inl (.inr ⟨o, e _ _ h⟩)
  · exact .inr h
mutual
theorem dp_same {K : PySem.W.Frag} {H H' : Hp} (e : Same H H') : ∀ (d : PyData) (v : V), Dp K H v d → Dp K H' v d
  | .none, _, h => by cases h; exact .non
  | .bool _, _, h => by cases h; exact .bl _
  | .int _, _, h => by cases h; exact .int _
  | .str _, _, h => by cases h; exact .str _
  | .list ds, _, h => by
    cases h with
    | lst hs ha => exact .lst (e.seq hs) (dpAll_same e ds _ ha)
  | .tuple ds, _, h => by
    cases h with
    | tup hs ha => exact .tup (sqT_same e hs) (dpAll_same e ds _ ha)
  | .dict _, _, h => by cases h
theorem dpAll_same {K : PySem.W.Frag} {H H' : Hp} (e : Same H H') : ∀ (ds : List PyData) (vs : List V), DpAll K H vs ds → DpAll K H' vs ds
  | [], _, h => by cases h; exact .nil
  | d :: ds, _, h => by
    cases h with
    | cons h1 h2 => exact .cons (dp_same e d _ h1) (dpAll_same e ds _ h2)
end
theorem Dr.same {K : PySem.W.Frag} {H H' : Hp} {v : V} {d : PyData} (h : Dr K H v d) (e : Same H H') : Dr K H' v d := by
  cases h with
  | dp h => exact .dp (dp_same e d v h)
  | dic h f => exact .dic (e _ _ h) f
/-- a list of bools, as data -/
theorem dp_bools {K : PySem.W.Frag} {H : Hp} : ∀ bs : List Bool, DpAll K H (bs.map V.bl) (bs.map PyData.bool)
  | [] => .nil
  | b :: bs => .cons (.bl b) (dp_bools bs)
theorem lay_bools : ∀ bs : List Bool, PyData.canLayAll0 (bs.map PyData.bool) = true
  | [] => rfl
  | b :: bs => by
    rw [List.map_cons, PyData.canLayAll0, lay_bools bs]
    rfl
theorem depth_bools : ∀ bs : List Bool, PyData.depthAll (bs.map PyData.bool) = 0
  | [] => rfl
  | b :: bs => by
    rw [List.map_cons, PyData.depthAll, depth_bools bs]
    rfl
theorem shaped_bools (bs : List Bool) : SeqAt.shaped (.list (bs.map PyData.bool)) = true := by
  show (PyData.canLay0 (.list (bs.map PyData.bool)) && decide (PyData.depth (.list (bs.map PyData.bool)) ≤ 64)) = true
  rw [Bool.and_eq_true]
  refine ⟨by simp only [PyData.canLay0]; exact lay_bools bs, decide_eq_true ?_⟩
  simp only [PyData.depth]
  rw [depth_bools]
  decide
theorem eqv_bools : ∀ bs : List Bool, PyData.eqvAll (bs.map PyData.bool) (bs.map PyData.bool) = true
  | [] => by simp [PyData.eqvAll]
  | b :: bs => by
    rw [List.map_cons, PyData.eqvAll, eqv_bools bs]
    cases b <;> simp [PyData.eqv]
theorem paired_get {α β : Type} {F : α → β → Prop} : ∀ {l : List α} {m : List β} {i : Nat} {a : α}, Paired F l m → l[i]? = some a → ∃ b, m[i]? = some b ∧ F a b
  | _, _, 0, a, .cons r _, h => ⟨_, rfl, by rw [← Option.some.inj h]; exact r⟩
  | _, _, i + 1, a, .cons _ t, h => paired_get (i := i) t h
  | _, _, _, _, .nil, h => by cases h
theorem paired_const {α β : Type} {F : α → β → Prop} {g : β → α} : ∀ {m : List β}, (∀ y ∈ m, F (g y) y) → Paired F (m.map g) m
  | [], _ => .nil
  | y :: m, h => .cons (h y List.mem_cons_self) (paired_const fun z hz => h z (List.mem_cons_of_mem _ hz))
/-- the law's own call, its def's promise holding where nothing is being shown -/
theorem lawG_call {P : Program} {w : World} {K : PySem.W.Frag} {mg mb : Str → Option Value} {CX : CXT} {k : Nat} {fa a : Addr} {fd : FuncData} {x : Str} {sp : Sp} {s₁ : Shared} {vs : List Value} {ns : List Int}
    (KX : K.In s₁.heap) (hns : s₁.heap.Ns mainGlobals mg) (hb : s₁.heap.Ns builtinsNs mb) (hbb : ∀ x : Str, x ≠ "__name__" → mb x = bootBuiltins x) (hlim : s₁.heap.NoLimit) (hg : s₁.gens = #[])
    (ha : s₁.heap.get? a = some { cls := .type "list", data := .seq vs.toArray }) (hi : IntsAre vs ns) (hl : ns.length ≤ sizeLine) (hr : Room k callerA)
    (F : ∀ base : Heap, K.In base → base.Ns mainGlobals mg → FnG P w K mg base CX k fa fd [x] sp) (hbind : ∀ (s : Shared) (u : Value), BindsTo s fd ⟨[u], []⟩ [(x, u)])
    (hsp : ∀ H : Hp, Only H → SqL K H a (ns.map V.int) → sp [.ref a] H (fun v _ => v = .bl true) fun _ _ _ => False) (hCX : ∀ H e s', CX [] H s₁ (fun _ _ _ => False) e s' → False) :
    codeAny (model P w) callerA (.call (.ref fa) ⟨[.ref a], []⟩) (fun r s' => r = .ok (.ret (.bool true)) ∧ OldK s₁.heap s'.heap ∧ s'.os = s₁.os ∧ AllBare s'.gens) s₁ := by
  have go : ∀ H : Hp, Only H → SqL K H a (ns.map V.int) → HOk P w H s₁.heap → (∀ b u, H b = some u → b = a) → (∀ u, H a = some u → K.lookup a = none) →
      codeAny (model P w) callerA (.call (.ref fa) ⟨[.ref a], []⟩) (fun r s' => r = .ok (.ret (.bool true)) ∧ OldK s₁.heap s'.heap ∧ s'.os = s₁.os ∧ AllBare s'.gens) s₁ := by
    intro H only sq hok one noK
    have keepN : ∀ {b : Addr} {o : Obj}, s₁.heap.get? b = some o → H b = none → (hidT s₁.heap H).get? b = some o := fun z n => hidT_get z n
    have notA : ∀ {b : Addr} {o : Obj} {es : Array DictEntry} {ep : Nat}, s₁.heap.get? b = some o → o.data = .dict es ep → H b = none := by
      intro b o es ep z d
      rcases q : H b with _ | u
      · rfl
      · have e := one b u q
        subst e
        rw [ha] at z
        cases z
        cases (show Data.seq vs.toArray _ = Data.dict es ep from d)
    have kns : ∀ {b : Addr} {m : Str → Option Value}, s₁.heap.Ns b m → (hidT s₁.heap H).Ns b m := by
      rintro b m ⟨o, es, ep, z, d, r⟩
      exact ⟨o, es, ep, keepN z (notA z d), d, r⟩
    have kin : K.In (hidT s₁.heap H) := by
      intro b o z
      refine keepN (KX b o z) ?_
      rcases q : H b with _ | u
      · rfl
      · have e := one b u q
        subst e
        rw [noK u q] at z
        cases z
    obtain ⟨mc, l1, l2⟩ := hlim
    have e0 : Env0 P w K mg (hidT s₁.heap H) callerA [] s₁ H :=
      { frames := rfl, mod := { kin := kin, glob := kns hns, blt := ⟨mb, kns hb, hbb⟩, nolimit := ⟨mc, kns l1, l2⟩ }, bs := fun _ _ z => of_hidT z, bsz := Nat.le_of_eq (hidT_size _ _), funs := trivial, frf := fun b z => (by cases (show b ∈ ([] : List Addr) from z)), hok := hok, bare := .of_eq hg }
    refine codeAny_mono ((F _ kin (kns hns)).run callerA [] s₁ H ⟨[.ref a], []⟩ [.ref a] [.ref a] _ _ rfl hr e0 (hbind s₁ (.ref a)) (.cons rfl .nil) (hsp H only sq)) ?_
    intro r s' h
    match r, h with
    | .error e, h => exact (hCX H e s' h).elim
    | .ok .next, h => exact h.elim
    | .ok .brk, h => exact h.elim
    | .ok .cont, h => exact h.elim
    | .ok (.ret u), ⟨v, H', os, bare, un, hok', r', q⟩ =>
      cases (show v = V.bl true from q)
      cases (show u = Value.bool true from r')
      refine ⟨rfl, OldK.of_keep fun b o z => ?_, os, bare⟩
      rcases only b with n | ⟨ob, xs, n⟩
      · exact un.keep b o z n (fun y => by cases (show b ∈ ([] : List Addr) from y)) (by simp)
      · obtain ⟨e1, _⟩ := hok b _ n
        obtain ⟨e2, _⟩ := hok' b _ (un.frzs b ob _ n)
        rw [z] at e1
        cases e1
        exact e2
  have rv : Vals (ns.map V.int) vs := vals_ints hi
  have len := hi.length
  rcases hk : K.lookup a with _ | o
  · -- the script is tracked, locked
    refine go (fun b => if b = a then some (.frz { cls := .type "list", data := .seq vs.toArray } (.lst (ns.map V.int))) else none) ?_ (.inl (.inr ⟨_, if_pos rfl⟩)) ?_ ?_ fun _ _ => hk
    · intro b
      by_cases e : b = a
      · exact .inr ⟨_, _, if_pos e⟩
      · exact .inl (if_neg e)
    · intro b u z
      by_cases e : b = a
      · subst e
        cases (if_pos rfl).symm.trans z
        exact ⟨ha, by rw [List.length_map]; exact hl, vs, _, rv, ha⟩
      · cases (if_neg e).symm.trans z
    · intro b u z
      by_cases e : b = a
      · exact e
      · cases (if_neg e).symm.trans z
  · -- the script is an object of the module
    have e := KX a o hk
    rw [ha] at e
    cases e
    exact go (fun _ => none) (fun _ => .inl rfl) (.inr ⟨_, vs.toArray, _, hk, rfl, rfl, rfl, by rw [List.size_toArray, len]; exact hl, by simpa using rv⟩) (fun b u z => (by cases (show (none : Option HO) = some u from z)))
      (fun b u z => (by cases (show (none : Option HO) = some u from z))) fun u z => (by cases (show (none : Option HO) = some u from z))
theorem walkG {l : PySem.W.OpenLaw} {n k : Nat} {q : Program} {loose : List Str} {XP : (Str → Option Value) → Heap → Prop} {YP : World → Heap → Prop} {d : DefRec} {CX : CXT} {x : Str}
    (hn : l.most = some n) (hn2 : n ≤ sizeLine) (hdf : d.params.defaults = []) (hr : Room k callerA)
    (F : ∀ (w : World) (mg : Str → Option Value) (fa : Addr) (h : Heap), YP w h → h.Ns mainGlobals mg → mg d.name = some (.ref fa) →
      ∃ (K : PySem.W.Frag) (fd : FuncData) (sp : Sp), K.In h ∧ (∀ (s : Shared) (u : Value), BindsTo s fd ⟨[u], []⟩ [(x, u)]) ∧
        (∀ (H : Hp) (a : Addr) (ns : List Int), ns.length ≤ n → Only H → SqL K H a (ns.map V.int) → sp [.ref a] H (fun v _ => v = .bl true) fun _ _ _ => False) ∧
        ∀ base : Heap, K.In base → base.Ns mainGlobals mg → FnG l.prog w K mg base CX k fa fd [x] sp)
    (hCX : ∀ (H : Hp) (s : Shared) (e : Value) (s' : Shared), CX [] H s (fun _ _ _ => False) e s' → False) : PySem.W.WalkO q loose XP YP l.row.toRowW d [] (fun f vs => PySem.call f vs) := by
  refine Att.attach_call hn hdf fun w s₀ s₁ mg mb fa o pm cd doc a vs ns G Y ho hd hcd hmg hobj hints hlen hg => ?_
  obtain ⟨K, fd, sp, kin, bind, want, prom⟩ := F w mg fa _ Y G.T.g hmg
  exact lawG_call kin G.T.g G.T.b G.T.builtins G.T.nolimit hg hobj hints (Nat.le_trans hlen hn2) hr prom bind (fun H o S => want H a ns hlen o S) fun H e s' => hCX H s₁ e s'
/-! ### the head: facts of one's own kind -/
def obsL (chk : PySem.W.Frag → Bool) (fn : List He.DefD) (K : PySem.W.Frag) : He.AlD := (chk K && fn.all fun d => d.ok K, fn.map fun d => He.fnW K d.at_)
def SaysL (chk : PySem.W.Frag → Bool) (fn : List He.DefD) (K : PySem.W.Frag) : Prop := obsL chk fn K = He.valD fn
def obsLG (n : Nat) (chk : PySem.W.Frag → Bool) (fn : List He.DefD) (g : Addr → Option Obj) : He.AlD := obsL chk fn (He.frG g (He.asD g n))
def hookL (n : Nat) (chk : PySem.W.Frag → Bool) (fn : List He.DefD) : PySem.W.Hook where
  α := He.AlD
  obs := fun s => obsLG n chk fn s.heap.get?
  val := fun _ => He.valD fn
  says := fun _ h => ∃ K : PySem.W.Frag, K.In h ∧ SaysL chk fn K
  of := fun _ _ e => ⟨_, He.frG_in, e⟩
  keeps := fun _ _ _ ⟨K, hK, c⟩ k => ⟨K, PySem.W.Frag.In.keeps hK k, c⟩
theorem obsLG_eq {n : Nat} {chk : PySem.W.Frag → Bool} {fn : List He.DefD} {g : Addr → Option Obj} {s : Shared} (h : ∀ a, g a = s.heap.get? a) : obsLG n chk fn g = (hookL n chk fn).obs s := by
  have e : g = s.heap.get? := funext h
  rw [e] <;> rfl
theorem SaysL.chk {chk : PySem.W.Frag → Bool} {fn : List He.DefD} {K : PySem.W.Frag} (c : SaysL chk fn K) : chk K = true :=
  (He.ba (show (chk K && fn.all fun d => d.ok K) = true from congrArg (fun z : He.AlD => z.1) c)).1
theorem SaysL.def_ {chk : PySem.W.Frag → Bool} {fn : List He.DefD} {K : PySem.W.Frag} (c : SaysL chk fn K) (i : Nat) {d : He.DefD} (h : fn[i]? = some d := by rfl) : ∃ fd, FunD K d.name d.qual d.params d.body d.scope (d.dvs K) (d.kws K) (He.fAd K d.at_) fd := by
  have c2 := (He.ba (show (chk K && fn.all fun d => d.ok K) = true from congrArg (fun z : He.AlD => z.1) c)).2
  have e2 : (fn.map fun d => He.fnW K d.at_)[i]? = (fn.map He.DefD.val)[i]? := congrArg (fun l : List He.FnW => l[i]?) (congrArg (fun z : He.AlD => z.2) c)
  rw [List.getElem?_map, List.getElem?_map, h] at e2
  exact He.DefD.funD (Option.some.inj e2) (List.all_eq_true.mp c2 d (List.mem_of_getElem? h))
end Lw

set_option Elab.async false
set_option linter.all false
set_option maxRecDepth 100000
set_option maxHeartbeats 4000000
/-! How long a shown value is. -/
namespace Lw
open PySem PySem.Spec PyProof.Rows L2
theorem join_le (ts : List Str) : (Str.join ", " ts).length ≤ piled ts := by
  cases ts with
  | nil => exact Nat.zero_le _
  | cons t r =>
    have e := join_length_add (t :: r) (by simp)
    omega
theorem textFrom_le : ∀ (ts : List Str) (k : Nat) (acc : Str), (textFrom k acc ts).length ≤ acc.length + piled ts
  | [], k, acc => Nat.le_add_right _ _
  | t :: r, k, acc => by
    have h := textFrom_le r (k + 1) (acc ++ (if k > 0 then ", " else "" : String) ++ t)
    have e : (acc ++ (if k > 0 then ", " else "" : String) ++ t).length ≤ acc.length + 2 + t.length := by
      rw [strLen_append, strLen_append]
      by_cases c : k > 0
      · rw [if_pos c]
        exact Nat.le_refl _
      · rw [if_neg c]
        show acc.length + 0 + t.length ≤ _
        omega
    have p : piled (t :: r) = t.length + 2 + piled r := by simp [piled]
    show (textFrom (k + 1) (acc ++ (if k > 0 then ", " else "" : String) ++ t) r).length ≤ _
    omega
mutual
def cost : PyData → Nat
  | .none => 4
  | .bool _ => 5
  | .int i => (toString i).length
  | .str x => (reprText x).length
  | .list xs => costAll xs + 2
  | .tuple xs => costAll xs + 3
  | .dict kvs => costKv kvs + 2
def costAll : List PyData → Nat
  | [] => 0
  | x :: xs => cost x + 2 + costAll xs
def costKv : List (PyData × PyData) → Nat
  | [] => 0
  | (k, v) :: r => cost k + 2 + cost v + 2 + costKv r
end
mutual
theorem shown_le : ∀ d : PyData, d.shown.length ≤ cost d
  | .none => by decide +kernel
  | .bool b => by cases b <;> decide +kernel
  | .int i => by
    simp only [PyData.shown, cost]
    rw [PySem.ofString_length]
    exact Nat.le_refl _
  | .str x => by
    simp only [PyData.shown, cost]
    exact Nat.le_refl _
  | .list xs => by
    simp only [PyData.shown, cost]
    have h := shownAll_le xs
    have h2 := textFrom_le (PyData.shownAll xs) 0 "["
    unfold listText
    rw [strLen_append]
    have e1 : (("[" : String) : Str).length = 1 := rfl
    have e2 : (("]" : String) : Str).length = 1 := rfl
    omega
  | .tuple xs => by
    simp only [PyData.shown, cost]
    have h := shownAll_le xs
    have h2 := join_le (PyData.shownAll xs)
    unfold tupleText
    rw [strLen_append, strLen_append]
    have e1 : (("(" : String) : Str).length = 1 := rfl
    have e2 : ((if (PyData.shownAll xs).length == 1 then ",)" else ")" : String) : Str).length ≤ 2 := by
      cases ((PyData.shownAll xs).length == 1) <;> decide +kernel
    omega
  | .dict kvs => by
    simp only [PyData.shown, cost]
    have h := shownKv_le kvs
    have h2 := join_le (PyData.shownKv kvs)
    unfold dictText
    rw [strLen_append, strLen_append]
    have e1 : (("{" : String) : Str).length = 1 := rfl
    have e2 : (("}" : String) : Str).length = 1 := rfl
    omega
theorem shownAll_le : ∀ ds : List PyData, piled (PyData.shownAll ds) ≤ costAll ds
  | [] => by simp [PyData.shownAll, piled, costAll]
  | d :: ds => by
    have h1 := shown_le d
    have h2 := shownAll_le ds
    have p : piled (PyData.shownAll (d :: ds)) = d.shown.length + 2 + piled (PyData.shownAll ds) := by simp [PyData.shownAll, piled]
    simp only [costAll]
    omega
theorem shownKv_le : ∀ kvs : List (PyData × PyData), piled (PyData.shownKv kvs) ≤ costKv kvs
  | [] => by simp [PyData.shownKv, piled, costKv]
  | (k, v) :: r => by
    have h1 := shown_le k
    have h2 := shown_le v
    have h3 := shownKv_le r
    have p : piled (PyData.shownKv ((k, v) :: r)) = (k.shown ++ ": " ++ v.shown).length + 2 + piled (PyData.shownKv r) := by simp [PyData.shownKv, piled]
    have e : (k.shown ++ ": " ++ v.shown).length = k.shown.length + 2 + v.shown.length := by
      rw [strLen_append, strLen_append]
      rfl
    simp only [costKv]
    omega
end
theorem shows_of {d : PyData} (n : Nat) (h1 : d.showable = true) (h2 : cost d ≤ n) (h3 : d.depth ≤ 60) (hn : n ≤ 100000 := by decide) : Shows d d.shown :=
  ⟨rfl, h1, by rw [sizeLine_eq]; have := shown_le d; omega, h3⟩
theorem log_small {c : Int} (h : c.natAbs < 10 ^ 400) : c.natAbs.log2 < 1920 := by
  by_cases z : c.natAbs = 0
  · rw [z]; decide
  · exact (Nat.log2_lt z).mpr (Nat.lt_of_lt_of_le h (by decide +kernel))
end Lw

set_option Elab.async false
set_option linter.all false
set_option maxRecDepth 100000
set_option maxHeartbeats 4000000
namespace K00
open PySem PySem.Spec PyProof.Rows L2 Lw
def top (i : Nat) : Stmt := PySem.Challenge.pw_landingwires_k00_errors_and_what_they_ke.main.body.getD i (.Pass ⟨0, 0, 0, 0⟩)
abbrev sInit : Stmt := inClass (top 1) 0
abbrev sMade : Stmt := top 36
abbrev sMarked : Stmt := top 37
abbrev sKept : Stmt := top 38
abbrev sLaw : Stmt := top 39
abbrev FnP (K : PySem.W.Frag) (x qual : Str) (st : Stmt) (f : Addr) (fd : FuncData) : Prop := FunD K x qual (defArgs st) (defBody st) (defScope st) [] [] f fd
def names : List Str := [Str.ofString "BadMarks", Str.ofString "BadWires", Str.ofString "OtherWires", Str.ofString "BadBook", Str.ofString "NoKind", Str.ofString "NoLine", Str.ofString "BadChange", Str.ofString "BadPosition", Str.ofString "BadStanding", Str.ofString "BadLandings", Str.ofString "NoLanding", Str.ofString "NoLamp", Str.ofString "BadPlace", Str.ofString "NoSwitch", Str.ofString "BadWhat", Str.ofString "BadSwitch", Str.ofString "BadLamp", Str.ofString "TooMany", Str.ofString "BadRule", Str.ofString "Unlike", Str.ofString "BadBooks", Str.ofString "BadTrials", Str.ofString "BadKinds", Str.ofString "BadWord", Str.ofString "BadOffers", Str.ofString "BadWishes", Str.ofString "NoRoom", Str.ofString "Empty", Str.ofString "NothingToUndo", Str.ofString "NothingToRedo", Str.ofString "NoTrial", Str.ofString "BadJournal", Str.ofString "BadSay"]
def gM0 : List Str := [Str.ofString "BadMarks", Str.ofString "BadWires", Str.ofString "OtherWires", Str.ofString "BadBook", Str.ofString "NoKind", Str.ofString "NoLine"]
def gMs : List (List Str) := [[Str.ofString "BadChange", Str.ofString "BadPosition", Str.ofString "BadStanding"], [Str.ofString "BadLandings", Str.ofString "NoLanding", Str.ofString "NoLamp"], [Str.ofString "BadPlace", Str.ofString "NoSwitch", Str.ofString "BadWhat"], [Str.ofString "BadSwitch", Str.ofString "BadLamp", Str.ofString "TooMany"], [Str.ofString "BadRule", Str.ofString "Unlike", Str.ofString "BadBooks"], [Str.ofString "BadTrials", Str.ofString "BadKinds", Str.ofString "BadWord"], [Str.ofString "BadOffers", Str.ofString "BadWishes", Str.ofString "NoRoom"], [Str.ofString "Empty", Str.ofString "NothingToUndo", Str.ofString "NothingToRedo"], [Str.ofString "NoTrial", Str.ofString "BadJournal", Str.ofString "BadSay"]]
def gK0 : List Str := [Str.ofString "BadMarks", Str.ofString "BadWires", Str.ofString "OtherWires"]
def gKs : List (List Str) := [[Str.ofString "BadBook", Str.ofString "NoKind", Str.ofString "NoLine"], [Str.ofString "BadChange", Str.ofString "BadPosition", Str.ofString "BadStanding"], [Str.ofString "BadLandings", Str.ofString "NoLanding", Str.ofString "NoLamp"], [Str.ofString "BadPlace", Str.ofString "NoSwitch", Str.ofString "BadWhat"], [Str.ofString "BadSwitch", Str.ofString "BadLamp", Str.ofString "TooMany"], [Str.ofString "BadRule", Str.ofString "Unlike", Str.ofString "BadBooks"], [Str.ofString "BadTrials", Str.ofString "BadKinds", Str.ofString "BadWord"], [Str.ofString "BadOffers", Str.ofString "BadWishes", Str.ofString "NoRoom"], [Str.ofString "Empty", Str.ofString "NothingToUndo", Str.ofString "NothingToRedo"], [Str.ofString "NoTrial", Str.ofString "BadJournal", Str.ofString "BadSay"]]
abbrev ga := He.ga
def fI (K : PySem.W.Frag) : Addr := He.fAd K ("WireError", some "__init__")
structure Txt (K : PySem.W.Frag) (mg : Str → Option Value) : Prop where
  gl : ∀ x ∈ ("WireError" : Str) :: names, mg x = some (.ref (ga K x))
  xc : ∀ x ∈ ("WireError" : Str) :: names, XcC K (ga K x)
  ini : ∀ x ∈ ("WireError" : Str) :: names, PySem.W.findIn K (.ref (ga K x)) "__init__" = some (some (.ref (fI K)))
  tI : PySem.W.typeIn K (.ref (fI K)) = some (.type "function")
  kit : ∀ x ∈ names, ∀ y ∈ names, PySem.W.kitOne K (.ref (ga K x)) (.ref (ga K y)) = some (decide (x = y))
  kW : ∀ x ∈ ("WireError" : Str) :: names, PySem.W.kitOne K (.ref (ga K x)) (.ref (ga K "WireError")) = some true
  kV : ∀ x ∈ ("WireError" : Str) :: names, PySem.W.kitOne K (.ref (ga K x)) (.type "ValueError") = some true
  kN : ∀ y ∈ names, PySem.W.kitOne K (.ref (ga K "WireError")) (.ref (ga K y)) = some false
  kB : ∀ y ∈ names, PySem.W.kitOne K (.type "ValueError") (.ref (ga K y)) = some false
  free : ∀ x ∈ (["isinstance", "enumerate", "range", "repr", "ValueError", "int", "str", "all"] : List Str), mg x = none
section
variable {P : Program} {w : World} {K : PySem.W.Frag} {mg : Str → Option Value} {base : Heap}
theorem scI : FnScope ["self", "value"] ["self", "value"] (defScope sInit) := ⟨rfl, rfl, rfl, by decide +kernel, rfl, by decide +kernel, by decide +kernel⟩
theorem ok_init {f : Addr} {fd : FuncData} (F : FnP K "__init__" "WireError.__init__" sInit f fd) : FnOk P w K mg base CX0 1 f fd ["self", "value"] (spInit K) := by
  refine F.ok scI (fun vs H Q E h => ?_) (fun cdv A outer s H vs Q E hr h => ⟨_, PSs.nox (pss_one (ps_ost (pv 0) (pv 1))), init_reads h⟩)
  obtain ⟨a, C, v, rfl, _⟩ := h
  rfl
section
variable {X : Cx} {fd : FuncData}
theorem mk1 {x : Str} {p p2 pos : Pos} (T : Txt X.K X.mg) (F1 : FnOk X.prog X.w X.K X.mg X.base CX0 1 (fI X.K) fd ["self", "value"] (spInit X.K)) (hr : Room 2 X.A) (hb : Binds X.K fd ["self", "value"] []) (hx : x ∈ ("WireError" : Str) :: names)
    (hg : Gl X x := by rfl) (hN : X.N[0]? = some ("_law_value" : Str) := by rfl) (hv : Vis X.env.scope "_law_value" := by first | exact Or.inl rfl | exact Or.inr (Or.inl rfl)) (hdb : (x == ("__debug__" : Str)) = false := by decide +kernel)
    (he : starEach [.Name "_law_value" p2] X.env = (false, eval (.Name "_law_value" p2) X.env) :: starEach [] X.env := by rfl) (hpl : (backTo pos (starEach [] X.env)).any (·.1) = false := by rfl) :
    PE X (.Call (.Name x p) [.Name "_law_value" p2] [] pos) (tMkV (ga X.K x) (spInit X.K) [] E0 (tCons (tVar 0) tNil)) :=
  pe_mkV (T.xc x hx).ox (T.ini x hx) T.tI F1 hr hb .nil pass0 hg (T.gl x hx) (pa_cons (pe_var hN hv) pa_nil) hdb he hpl
theorem is1 {x : Str} {p p2 p3 pos : Pos} (T : Txt X.K X.mg) (hx : x ∈ ("WireError" : Str) :: names) (hg : Gl X x := by rfl) (hgi : Gl X "isinstance" := by rfl) (hN : X.N[0]? = some ("_law_error" : Str) := by rfl)
    (hv : Vis X.env.scope "_law_error" := by first | exact Or.inl rfl | exact Or.inr (Or.inl rfl)) (hdb : (x == ("__debug__" : Str)) = false := by decide +kernel)
    (he : starEach [.Name "_law_error" p2, .Name x p3] X.env = (false, eval (.Name "_law_error" p2) X.env) :: starEach [.Name x p3] X.env := by rfl) (hpl : (backTo pos (starEach [.Name x p3] X.env)).any (·.1) = false := by rfl) :
    PE X (.Call (.Name "isinstance" p) [.Name "_law_error" p2, .Name x p3] [] pos) (tCB (rIsB X.K) (tCons (tVar 0) (tCons (tC (.ref (ga X.K x))) tNil))) :=
  pe_callB call_isB hgi (T.free _ (by decide +kernel)) (by decide +kernel) (pa_cons (pe_var hN hv) (pa_cons (pe_glob hg (T.gl x hx) rfl hdb) pa_nil)) (by decide) (by decide) he hpl
end
/-! ### the two defs over all classes -/
def spMade (K : PySem.W.Frag) : Sp := fun vs H Q _ => ∃ v, vs = [v] ∧ ∀ (as : List Addr) (l : Addr) (H' : Hp), Same H H' → H l = none → H' l = some (.lst (as.map V.ref)) → Paired (fun a x => ErrAt H' a (ga K x) v) as names → Q (.ref l) H'
def t_made (K : PySem.W.Frag) : TS := tSeq (tAsg (tLst (tMks K 0 gM0)) (gName 1)) (tExts K (tMks K 0) gMs)
theorem scM : FnScope ["_law_value", "_law_found"] ["_law_value"] (defScope sMade) := ⟨rfl, rfl, rfl, by decide +kernel, rfl, by decide +kernel, by decide +kernel⟩
theorem ok_made {f : Addr} {fd fdI : FuncData} (F : FnP K "_law_made" "_law_made" sMade f fd) (T : Txt K mg) (FI : FnP K "__init__" "WireError.__init__" sInit (fI K) fdI) : FnOk P w K mg base CX0 3 f fd ["_law_value"] (spMade K) := by
  have F1 : FnOk P w K mg base CX0 1 (fI K) fdI ["self", "value"] (spInit K) := ok_init FI
  have b1 : Binds K fdI ["self", "value"] [] := FI.bindsN fun _ _ _ _ _ _ us hl => match us, hl with | [_, _], _ => rfl
  refine F.ok scM (fun vs H Q E h => ?_) (fun cdv A outer s H vs Q E hr h => ⟨t_made K, PSs.nox ?_, ?_⟩)
  · obtain ⟨v, rfl, _⟩ := h
    rfl
  · exact pss_cons (ps_set (i := 1) scM.nd rfl (Or.inl rfl) (pe_lst (pa_cons (mk1 T F1 hr b1 (by decide +kernel)) (pa_cons (mk1 T F1 hr b1 (by decide +kernel)) (pa_cons (mk1 T F1 hr b1 (by decide +kernel)) (pa_cons (mk1 T F1 hr b1 (by decide +kernel)) (pa_cons (mk1 T F1 hr b1 (by decide +kernel)) (pa_cons (mk1 T F1 hr b1 (by decide +kernel)) pa_nil)))))))) (pss_cons (ps_expr (pe_bm PySem.F.plainAttrs_list PySem.F.slot_list_extend PySem.F.type_list_extend mt_extend (pv 1) (pa_cons (pe_lst (pa_cons (mk1 T F1 hr b1 (by decide +kernel)) (pa_cons (mk1 T F1 hr b1 (by decide +kernel)) (pa_cons (mk1 T F1 hr b1 (by decide +kernel)) pa_nil)))) pa_nil))) (pss_cons (ps_expr (pe_bm PySem.F.plainAttrs_list PySem.F.slot_list_extend PySem.F.type_list_extend mt_extend (pv 1) (pa_cons (pe_lst (pa_cons (mk1 T F1 hr b1 (by decide +kernel)) (pa_cons (mk1 T F1 hr b1 (by decide +kernel)) (pa_cons (mk1 T F1 hr b1 (by decide +kernel)) pa_nil)))) pa_nil))) (pss_cons (ps_expr (pe_bm PySem.F.plainAttrs_list PySem.F.slot_list_extend PySem.F.type_list_extend mt_extend (pv 1) (pa_cons (pe_lst (pa_cons (mk1 T F1 hr b1 (by decide +kernel)) (pa_cons (mk1 T F1 hr b1 (by decide +kernel)) (pa_cons (mk1 T F1 hr b1 (by decide +kernel)) pa_nil)))) pa_nil))) (pss_cons (ps_expr (pe_bm PySem.F.plainAttrs_list PySem.F.slot_list_extend PySem.F.type_list_extend mt_extend (pv 1) (pa_cons (pe_lst (pa_cons (mk1 T F1 hr b1 (by decide +kernel)) (pa_cons (mk1 T F1 hr b1 (by decide +kernel)) (pa_cons (mk1 T F1 hr b1 (by decide +kernel)) pa_nil)))) pa_nil))) (pss_cons (ps_expr (pe_bm PySem.F.plainAttrs_list PySem.F.slot_list_extend PySem.F.type_list_extend mt_extend (pv 1) (pa_cons (pe_lst (pa_cons (mk1 T F1 hr b1 (by decide +kernel)) (pa_cons (mk1 T F1 hr b1 (by decide +kernel)) (pa_cons (mk1 T F1 hr b1 (by decide +kernel)) pa_nil)))) pa_nil))) (pss_cons (ps_expr (pe_bm PySem.F.plainAttrs_list PySem.F.slot_list_extend PySem.F.type_list_extend mt_extend (pv 1) (pa_cons (pe_lst (pa_cons (mk1 T F1 hr b1 (by decide +kernel)) (pa_cons (mk1 T F1 hr b1 (by decide +kernel)) (pa_cons (mk1 T F1 hr b1 (by decide +kernel)) pa_nil)))) pa_nil))) (pss_cons (ps_expr (pe_bm PySem.F.plainAttrs_list PySem.F.slot_list_extend PySem.F.type_list_extend mt_extend (pv 1) (pa_cons (pe_lst (pa_cons (mk1 T F1 hr b1 (by decide +kernel)) (pa_cons (mk1 T F1 hr b1 (by decide +kernel)) (pa_cons (mk1 T F1 hr b1 (by decide +kernel)) pa_nil)))) pa_nil))) (pss_cons (ps_expr (pe_bm PySem.F.plainAttrs_list PySem.F.slot_list_extend PySem.F.type_list_extend mt_extend (pv 1) (pa_cons (pe_lst (pa_cons (mk1 T F1 hr b1 (by decide +kernel)) (pa_cons (mk1 T F1 hr b1 (by decide +kernel)) (pa_cons (mk1 T F1 hr b1 (by decide +kernel)) pa_nil)))) pa_nil))) (pss_cons (ps_expr (pe_bm PySem.F.plainAttrs_list PySem.F.slot_list_extend PySem.F.type_list_extend mt_extend (pv 1) (pa_cons (pe_lst (pa_cons (mk1 T F1 hr b1 (by decide +kernel)) (pa_cons (mk1 T F1 hr b1 (by decide +kernel)) (pa_cons (mk1 T F1 hr b1 (by decide +kernel)) pa_nil)))) pa_nil))) (pss_one (ps_ret (pv 1))))))))))))
  · obtain ⟨v, rfl, k⟩ := h
    have big : (100000 : Nat) ≤ sizeLine := by rw [sizeLine_eq]; omega
    show tSeq (tAsg (tLst (tMks K 0 gM0)) (gName 1)) (tExts K (tMks K 0) gMs) _ [some v, none] H
    refine lst_first (mks_reads rfl gM0 (fun x hx => T.xc x ?_) fun as H1 s1 p => ⟨?_, fun l hl => ?_⟩)
    · exact List.mem_cons_of_mem _ ((by decide +kernel : ∀ x ∈ gM0, x ∈ names) x hx)
    · have e := paired_len p
      have e2 : gM0.length = 6 := rfl
      rw [List.length_map]
      omega
    · have n0 : H l = none := s1.free hl
      refine exts_made n0 gMs (H := upd H1 l (.lst (as.map V.ref))) upd_same (fun b o e => ?_) (paired_map (fun a x h => h.same fun b o e => ?_) p) (fun g hg x hx => T.xc x ?_) (by decide +kernel) (by decide +kernel) fun as' H' a1 a2 a3 => k as' l H' a2 n0 a1 ?_
      · rw [upd_ne (ne_of_none (s1 _ _ e) hl)]
        exact s1 _ _ e
      · exact List.mem_cons_of_mem _ ((by decide +kernel : ∀ g ∈ gMs, ∀ x ∈ g, x ∈ names) g hg x hx)
      · have e : gM0 ++ gMs.flatten = names := by decide +kernel
        rw [← e]
        exact a3
      · rw [upd_ne (ne_of_none e hl)]
        exact e
def spMarked (K : PySem.W.Frag) : Sp := fun vs H Q _ => ∃ (a : Addr) (bs : List Bool), vs = [.ref a] ∧ Paired (fun b x => IsB K H a (.ref (ga K x)) b) bs names ∧ ∀ (l : Addr) (H' : Hp), Same H H' → H l = none → H' l = some (.lst (bs.map V.bl)) → Q (.ref l) H'
def t_marked (K : PySem.W.Frag) : TS := tSeq (tAsg (tLst (tIss K 0 gK0)) (gName 1)) (tExts K (tIss K 0) gKs)
theorem scK : FnScope ["_law_error", "_law_found"] ["_law_error"] (defScope sMarked) := ⟨rfl, rfl, rfl, by decide +kernel, rfl, by decide +kernel, by decide +kernel⟩
theorem ok_marked {f : Addr} {fd : FuncData} (F : FnP K "_law_marked" "_law_marked" sMarked f fd) (T : Txt K mg) : FnOk P w K mg base CX0 2 f fd ["_law_error"] (spMarked K) := by
  refine F.ok scK (fun vs H Q E h => ?_) (fun cdv A outer s H vs Q E hr h => ⟨t_marked K, PSs.nox ?_, ?_⟩)
  · obtain ⟨a, bs, rfl, _⟩ := h
    rfl
  · exact pss_cons (ps_set (i := 1) scK.nd rfl (Or.inl rfl) (pe_lst (pa_cons (is1 T (by decide +kernel)) (pa_cons (is1 T (by decide +kernel)) (pa_cons (is1 T (by decide +kernel)) pa_nil))))) (pss_cons (ps_expr (pe_bm PySem.F.plainAttrs_list PySem.F.slot_list_extend PySem.F.type_list_extend mt_extend (pv 1) (pa_cons (pe_lst (pa_cons (is1 T (by decide +kernel)) (pa_cons (is1 T (by decide +kernel)) (pa_cons (is1 T (by decide +kernel)) pa_nil)))) pa_nil))) (pss_cons (ps_expr (pe_bm PySem.F.plainAttrs_list PySem.F.slot_list_extend PySem.F.type_list_extend mt_extend (pv 1) (pa_cons (pe_lst (pa_cons (is1 T (by decide +kernel)) (pa_cons (is1 T (by decide +kernel)) (pa_cons (is1 T (by decide +kernel)) pa_nil)))) pa_nil))) (pss_cons (ps_expr (pe_bm PySem.F.plainAttrs_list PySem.F.slot_list_extend PySem.F.type_list_extend mt_extend (pv 1) (pa_cons (pe_lst (pa_cons (is1 T (by decide +kernel)) (pa_cons (is1 T (by decide +kernel)) (pa_cons (is1 T (by decide +kernel)) pa_nil)))) pa_nil))) (pss_cons (ps_expr (pe_bm PySem.F.plainAttrs_list PySem.F.slot_list_extend PySem.F.type_list_extend mt_extend (pv 1) (pa_cons (pe_lst (pa_cons (is1 T (by decide +kernel)) (pa_cons (is1 T (by decide +kernel)) (pa_cons (is1 T (by decide +kernel)) pa_nil)))) pa_nil))) (pss_cons (ps_expr (pe_bm PySem.F.plainAttrs_list PySem.F.slot_list_extend PySem.F.type_list_extend mt_extend (pv 1) (pa_cons (pe_lst (pa_cons (is1 T (by decide +kernel)) (pa_cons (is1 T (by decide +kernel)) (pa_cons (is1 T (by decide +kernel)) pa_nil)))) pa_nil))) (pss_cons (ps_expr (pe_bm PySem.F.plainAttrs_list PySem.F.slot_list_extend PySem.F.type_list_extend mt_extend (pv 1) (pa_cons (pe_lst (pa_cons (is1 T (by decide +kernel)) (pa_cons (is1 T (by decide +kernel)) (pa_cons (is1 T (by decide +kernel)) pa_nil)))) pa_nil))) (pss_cons (ps_expr (pe_bm PySem.F.plainAttrs_list PySem.F.slot_list_extend PySem.F.type_list_extend mt_extend (pv 1) (pa_cons (pe_lst (pa_cons (is1 T (by decide +kernel)) (pa_cons (is1 T (by decide +kernel)) (pa_cons (is1 T (by decide +kernel)) pa_nil)))) pa_nil))) (pss_cons (ps_expr (pe_bm PySem.F.plainAttrs_list PySem.F.slot_list_extend PySem.F.type_list_extend mt_extend (pv 1) (pa_cons (pe_lst (pa_cons (is1 T (by decide +kernel)) (pa_cons (is1 T (by decide +kernel)) (pa_cons (is1 T (by decide +kernel)) pa_nil)))) pa_nil))) (pss_cons (ps_expr (pe_bm PySem.F.plainAttrs_list PySem.F.slot_list_extend PySem.F.type_list_extend mt_extend (pv 1) (pa_cons (pe_lst (pa_cons (is1 T (by decide +kernel)) (pa_cons (is1 T (by decide +kernel)) (pa_cons (is1 T (by decide +kernel)) pa_nil)))) pa_nil))) (pss_cons (ps_expr (pe_bm PySem.F.plainAttrs_list PySem.F.slot_list_extend PySem.F.type_list_extend mt_extend (pv 1) (pa_cons (pe_lst (pa_cons (is1 T (by decide +kernel)) (pa_cons (is1 T (by decide +kernel)) (pa_cons (is1 T (by decide +kernel)) pa_nil)))) pa_nil))) (pss_one (ps_ret (pv 1)))))))))))))
  · obtain ⟨a, bs, rfl, p, k⟩ := h
    have big : (100000 : Nat) ≤ sizeLine := by rw [sizeLine_eq]; omega
    have en : bs.length = 33 := (paired_len p).trans (by decide +kernel)
    have e : names = gK0 ++ gKs.flatten := by decide +kernel
    rw [e] at p
    obtain ⟨c1, c2, rfl, p1, p2⟩ := paired_split p
    rw [List.length_append] at en
    show tSeq (tAsg (tLst (tIss K 0 gK0)) (gName 1)) (tExts K (tIss K 0) gKs) _ [some (.ref a), none] H
    refine lst_first (iss_reads rfl p1 ⟨by rw [List.length_map]; omega, fun l hl => ?_⟩)
    refine exts_iss hl gKs (H := upd H l (.lst (c1.map V.bl))) upd_same (fun b o e => ?_) p2 (by omega) fun H' a1 a2 => k l H' a2 hl a1
    rw [upd_ne (ne_of_none e hl)]
    exact e
end
end K00

set_option Elab.async false
set_option linter.all false
set_option maxRecDepth 100000
set_option maxHeartbeats 4000000
namespace K00
open PySem PySem.Spec PyProof.Rows L2 Lw
theorem names_len : names.length = 33 := by decide +kernel
theorem rows_eq : ∀ i : Nat, i < 33 → ∀ x, names[i]? = some x → names.map (fun y => decide (x = y)) = (List.range 33).map fun k : Nat => decide ((0 + (k : Int)) = (i : Int)) := by
  have h : ∀ i : Nat, i < 33 → (names.map fun y => decide (names.getD i "" = y)) = (List.range 33).map fun k : Nat => decide ((0 + (k : Int)) = (i : Int)) := by decide +kernel
  intro i hi x hx
  have e : names.getD i "" = x := by rw [List.getD_eq_getElem?_getD, hx]; rfl
  rw [← e]
  exact h i hi
def falses : List Bool := names.map fun _ => false
section
variable {P : Program} {w : World} {K : PySem.W.Frag} {mg : Str → Option Value} {base : Heap}
def spKept (K : PySem.W.Frag) : Sp := fun vs H Q _ => ∃ (v : V) (d : PyData) (x : Str), vs = [v] ∧ Dr K H v d ∧ Shows d x ∧ ∀ H' : Hp, Same H H' → Q (.bl true) H'
abbrev nKept : List Str := ["_law_value", "_law_number", "_law_error", "_law_base", "_law_at"]
theorem scQ : FnScope nKept ["_law_value"] (defScope sKept) := ⟨rfl, rfl, rfl, by decide +kernel, rfl, by decide +kernel, by decide +kernel⟩
theorem ok_kept {f fM fK : Addr} {fd fdM fdK fdI : FuncData} (F : FnP K "_law_is_kept" "_law_is_kept" sKept f fd) (T : Txt K mg) (FI : FnP K "__init__" "WireError.__init__" sInit (fI K) fdI)
    (FM : FnP K "_law_made" "_law_made" sMade fM fdM) (FK : FnP K "_law_marked" "_law_marked" sMarked fK fdK) (gM : mg "_law_made" = some (.ref fM)) (gK : mg "_law_marked" = some (.ref fK)) :
    FnG P w K mg base CX0 4 f fd ["_law_value"] (spKept K) := by
  have F1 : FnOk P w K mg base CX0 1 (fI K) fdI ["self", "value"] (spInit K) := ok_init FI
  have b1 : Binds K fdI ["self", "value"] [] := FI.bindsN fun _ _ _ _ _ _ us hl => match us, hl with | [_, _], _ => rfl
  have GM : FnOk P w K mg base CX0 3 fM fdM ["_law_value"] (spMade K) := ok_made FM T FI
  have bM : Binds K fdM ["_law_value"] [] := FM.bindsN fun _ _ _ _ _ _ us hl => match us, hl with | [_], _ => rfl
  have GK : FnOk P w K mg base CX0 2 fK fdK ["_law_error"] (spMarked K) := ok_marked FK T
  have bK : Binds K fdK ["_law_error"] [] := FK.bindsN fun _ _ _ _ _ _ us hl => match us, hl with | [_], _ => rfl
  refine okG F scQ (fun vs H Q E h => ?_) (fun cdv A outer s H vs Q E hg hr h => ?_)
  · obtain ⟨v, d, x, rfl, _⟩ := h
    rfl
  · obtain ⟨v, d, x, rfl, hd, hx, k⟩ := h
    have hr2 : Room 2 _ := hr.mono (by decide)
    have un := hr.un
    have hrep : CallR (cxOf CX0 P w K mg base nKept "_law_is_kept" (defScope sKept) f cdv A outer s H E).nox (.builtin "repr") (rRepr K) := call_repr hg (by show (A.deeper _).units + 61 < cLine; omega)
    refine ⟨_, PSs.nox (pss_cons (ps_for PassesOwn.never rfl (pi_enum rfl (T.free _ (by decide +kernel)) (pa_cons (pe_call GM hr rfl gM FM.kp bM .nil pass0 (pa_cons (pv 0) pa_nil)) pa_nil))
          (pg_tup rfl (pgs_cons (pg_name (i := 1) scQ.nd rfl (Or.inr rfl)) (pgs_cons (pg_name (i := 2) scQ.nd rfl (Or.inl rfl)) pgs_nil)))
          (pss_cons (ps_if (PW.pt (pw_or (pt_cmpR (op_neD (by show (A.deeper _).units + 64 < cLine; omega)) (pe_call GK hr2 rfl gK FK.kp bK .nil pass0 (pa_cons (pv 2) pa_nil))
              (pe_lc (own := [("_law_at", 4)]) (g := gName 4) (tt := tYes) rfl scQ.nd (pi_range1 rfl (T.free _ (by decide +kernel)) (pa_cons pe_int pa_nil)) (blkOk_by (N := nKept) (sc := defScope sKept) (by decide +kernel))
                (fun _ _ _ _ _ => pg_name (i := 4) scQ.nd rfl (Or.inl rfl)) (fun _ _ _ _ _ => pts_nil) (fun _ _ _ _ _ => pe_cmpR op_eq (pv 4) (pv 1) (nomark _))) (nomark _))
              (pw_or1 (pt_cmpR op_ne (pe_callB hrep rfl (T.free _ (by decide +kernel)) boot_repr (pa_cons (pe_xv (pv 2)) pa_nil)) (pe_callB hrep rfl (T.free _ (by decide +kernel)) boot_repr (pa_cons (pv 0) pa_nil)) (nomark _)))))
            (pss_one (ps_ret pe_bl)) pss_nil)
          (pss_one (ps_if (PW.pt (pw_or (pt_not (pt_val (pe_callB call_isB rfl (T.free _ (by decide +kernel)) boot_isinstance (pa_cons (pv 2) (pa_cons (pe_glob (v := .ref (ga K "WireError")) rfl (T.gl _ (by decide +kernel)) rfl) pa_nil)))))
              (pw_or1 (pt_not (pt_val (pe_callB call_isB rfl (T.free _ (by decide +kernel)) boot_isinstance (pa_cons (pv 2) (pa_cons (pe_bltn (v := .ty "ValueError") rfl (T.free _ (by decide +kernel)) boot_ValueError rfl) pa_nil))))))))
            (pss_one (ps_ret pe_bl)) pss_nil))))
      (pss_cons (ps_set (i := 3) scQ.nd rfl (Or.inl rfl) (mk1 T F1 hr2 b1 (by decide +kernel)))
      (pss_cons (ps_if (PW.pt (pw_or (pt_cmpR op_ne (pe_callB hrep rfl (T.free _ (by decide +kernel)) boot_repr (pa_cons (pe_xv (pv 3)) pa_nil)) (pe_callB hrep rfl (T.free _ (by decide +kernel)) boot_repr (pa_cons (pv 0) pa_nil)) (nomark _))
            (pw_or (pt_cmpR op_in_seq pe_bl (pe_call GK hr2 rfl gK FK.kp bK .nil pass0 (pa_cons (pv 3) pa_nil)) (by with_unfolding_all rfl))
            (pw_or1 (pt_not (pt_val (pe_callB call_isB rfl (T.free _ (by decide +kernel)) boot_isinstance (pa_cons (pv 3) (pa_cons (pe_bltn (v := .ty "ValueError") rfl (T.free _ (by decide +kernel)) boot_ValueError rfl) pa_nil)))))))))
          (pss_one (ps_ret pe_bl)) pss_nil)
      (pss_one (ps_ret (pe_cmpR op_notIn_seq pe_bl (pe_call GK hr2 rfl gK FK.kp bK .nil pass0 (pa_cons (pe_veV rfl (T.free _ (by decide +kernel)) boot_ValueError (pa_cons (pv 0) pa_nil)) pa_nil)) (by with_unfolding_all rfl))))))), ?_⟩
    have big : (100000 : Nat) ≤ sizeLine := by rw [sizeLine_eq]; omega
    -- for number, error in enumerate(_law_made(value))
    refine ⟨v, rfl, v, rfl, fun as l H1 s1 n1 hl p => ⟨l, as.map V.ref, rfl, SqL.of hl, ?_⟩⟩
    have alen : as.length = 33 := (paired_len p).trans names_len
    have e33 : (as.map V.ref).length = 33 := by rw [List.length_map, alen]
    have hW := T.xc "WireError" List.mem_cons_self
    refine for_it (walk_enum (K := K) (a := l) (xs := as.map V.ref)) (fun i σ H' => ∃ s1 s2 : Option V, σ = [some v, s1, s2, none, none] ∧ Same H1 H') ⟨none, none, rfl, Same.refl _⟩ (fun i σ H' _ ⟨_, _, _, sm⟩ => sm.seq (SqL.of hl)) ?_ ?_
    · rintro i y σ H2 H3 hi ⟨z1, z2, rfl, sm⟩ ⟨T0, n0, y0, rfl, hT, rfl, e1, e2⟩
      cases (show V.int (i : Nat) = n0 from Option.some.inj e1)
      have e2 : (as.map V.ref)[i]? = some y0 := e2
      rw [List.getElem?_map] at e2
      obtain ⟨b, hb, rfl⟩ := Option.map_eq_some_iff.mp e2
      obtain ⟨x', hx', ea⟩ := Lw.paired_get p hb
      have hm : x' ∈ names := List.mem_of_getElem? hx'
      have hm2 : x' ∈ ("WireError" : Str) :: names := List.mem_cons_of_mem _ hm
      have i33 : i < 33 := by omega
      have sm3 : Same H1 (upd H2 T0 (.tup [V.int (i : Nat), V.ref b])) := fun c o e => by
        rw [upd_ne (ne_of_none (sm _ _ e) hT)]
        exact sm _ _ e
      refine ⟨T0, _, rfl, SqT.of upd_same, rfl, _, _, rfl, _, _, rfl, rfl, ?_⟩
      have hrow := rows_eq i i33 x' hx'
      -- _law_marked(error) != [..]
      refine ⟨_, rfl, b, names.map (fun y => decide (x' = y)), rfl, paired_const fun y hy => .inl ⟨_, v, ea.same sm3, T.xc x' hm2, T.kit x' hm y hy⟩, fun lm H4 s4 n4 hlm => ?_⟩
      refine ⟨33, rfl, by decide, by decide, fun D hD => lc_range (n := 33) (lo := 0) (fun k H' => H' D = some (.lst (((List.range k).map fun j : Nat => decide ((0 + (j : Int)) = (i : Int))).map V.bl)) ∧ Same H4 H') ⟨upd_same, fun c o e => by rw [upd_ne (ne_of_none e hD)]; exact e⟩ ?_ ?_⟩
      · rintro k H5 hk ⟨hD5, s5⟩
        refine ⟨rfl, _, rfl, _, rfl, rfl, _, hD5, by rw [List.length_map, List.length_map, List.length_range]; omega, ?_, fun c o e => ?_⟩
        · have ed : decide (V.int (0 + (k : Int)) = V.int (i : Int)) = decide ((0 + (k : Int)) = (i : Int)) := decide_eq_decide.mpr ⟨fun z => V.int.inj z, fun z => by rw [z]⟩
          rw [upd_same, ed, List.range_succ, List.map_append, List.map_append]
          rfl
        · rw [upd_ne (ne_of_none e hD)]
          exact s5 _ _ e
      · rintro H6 ⟨hD6, s6⟩
        have sA : Same H1 H6 := (sm3.trans s4).trans s6
        rw [← hrow] at hD6
        refine ⟨.list ((names.map (fun y => decide (x' = y))).map PyData.bool), .list ((names.map (fun y => decide (x' = y))).map PyData.bool), .lst (SqL.of (s6 _ _ hlm)) (dp_bools _), .lst (SqL.of hD6) (dp_bools _), shaped_bools _, shaped_bools _, _, rfl, ?_⟩
        refine ifF (by simp only [PyData.eqv]; rw [eqv_bools]; rfl) ?_
        -- repr(error.value) != repr(value)
        refine ⟨_, rfl, b, _, v, rfl, ea.same sA, T.xc x' hm2, v, d, x, rfl, hd.same (s1.trans sA), hx, v, rfl, v, d, x, rfl, hd.same (s1.trans sA), hx, rfl, _, rfl, ifF (by simp) ?_⟩
        -- not isinstance(error, WireError) or not isinstance(error, ValueError)
        refine ⟨_, rfl, b, _, _, true, rfl, .own _, .inl ⟨_, v, ea.same sA, T.xc x' hm2, T.kW x' hm2⟩, true, rfl, iteF ?_⟩
        refine ⟨_, rfl, b, _, _, true, rfl, .ty _, .inl ⟨_, v, ea.same sA, T.xc x' hm2, T.kV x' hm2⟩, true, rfl, iteF ?_⟩
        exact ⟨_, _, rfl, sA⟩
    · rintro σ H2 ⟨z1, z2, rfl, sm⟩
      -- base = WireError(value)
      refine seq_reads (set_reads (mk_reads (i := 0) hW rfl fun a H3 na ea s3 => ?_))
      have s13 := sm.trans s3
      have fall : ∀ H' : Hp, ∀ c : Addr, (∀ y ∈ names, IsB K H' c (.ref (ga K y)) false) → Paired (fun b y => IsB K H' c (.ref (ga K y)) b) falses names := fun H' c q => paired_const q
      refine ⟨_, rfl, a, _, v, rfl, ea, hW, v, d, x, rfl, hd.same (s1.trans s13), hx, v, rfl, v, d, x, rfl, hd.same (s1.trans s13), hx, rfl, _, rfl, ifF (by simp) ?_⟩
      -- True in _law_marked(base)
      refine ⟨_, rfl, a, falses, rfl, fall H3 a fun y hy => .inl ⟨_, v, ea, hW, T.kN y hy⟩, fun lm H4 s4 n4 hlm => ⟨lm, _, rfl, .inl (SqL.of hlm), rfl, by decide +kernel, _, rfl, ifF (by decide +kernel) ?_⟩⟩
      -- not isinstance(base, ValueError)
      refine ⟨_, rfl, a, _, _, true, rfl, .ty _, .inl ⟨_, v, ea.same s4, hW, T.kV _ List.mem_cons_self⟩, true, rfl, iteF ?_⟩
      -- return True not in _law_marked(ValueError(value))
      refine ⟨v, rfl, by show 1 ≤ sizeLine; omega, fun e he => ⟨e, falses, rfl, fall _ e fun y hy => .inr ⟨upd_same, T.kB y hy⟩, fun l2 H5 s5 n5 hl5 => ⟨l2, _, rfl, .inl (SqL.of hl5), rfl, by decide +kernel, ?_⟩⟩⟩
      have ee : (if true = true then !inV (.bl true) (falses.map V.bl) else inV (.bl true) (falses.map V.bl)) = true := by decide +kernel
      rw [ee]
      refine k _ fun c o q => ?_
      have q4 := s4 _ _ (s13 _ _ (s1 _ _ q))
      exact s5 _ _ (by rw [upd_ne (ne_of_none q4 he)]; exact q4)
end
end K00

set_option Elab.async false
set_option linter.all false
set_option maxRecDepth 100000
set_option maxHeartbeats 4000000
namespace K00
open PySem PySem.Spec PyProof.Rows L2 Lw
theorem same_upd {H : Hp} {p : Addr} {o : HO} (n : H p = none) : Same H (upd H p o) := fun b u e => by
  rw [upd_ne (ne_of_none e n)]
  exact e
theorem lay_ints : ∀ ns : List Int, PyData.canLayAll0 (ns.map PyData.int) = true
  | [] => rfl
  | b :: bs => by
    rw [List.map_cons, PyData.canLayAll0, lay_ints bs]
    rfl
theorem depth_ints : ∀ ns : List Int, PyData.depthAll (ns.map PyData.int) = 0
  | [] => rfl
  | b :: bs => by
    rw [List.map_cons, PyData.depthAll, depth_ints bs]
    rfl
theorem shaped_ints (ns : List Int) : SeqAt.shaped (.list (ns.map PyData.int)) = true := by
  show (PyData.canLay0 (.list (ns.map PyData.int)) && decide (PyData.depth (.list (ns.map PyData.int)) ≤ 64)) = true
  rw [Bool.and_eq_true]
  refine ⟨by simp only [PyData.canLay0]; exact lay_ints ns, decide_eq_true ?_⟩
  simp only [PyData.depth]
  rw [depth_ints]
  decide
theorem dp_ints {K : PySem.W.Frag} {H : Hp} : ∀ ns : List Int, DpAll K H (ns.map V.int) (ns.map PyData.int)
  | [] => .nil
  | n :: ns => .cons (.int n) (dp_ints ns)
theorem ofString_cps (s : String) : ∀ c ∈ (Str.ofString s).cps.toList, c < 16 ^ 8 := by
  intro c hc
  rw [Str.ofString_eq_toList] at hc
  obtain ⟨ch, _, rfl⟩ := List.mem_map.mp (show c ∈ s.toList.map Char.toNat by simpa using hc)
  exact ch.val.toNat_lt
theorem text_cps (a b : String) : ∀ c ∈ ((a : Str) ++ (b : Str)).cps.toList, c < 16 ^ 8 := by
  intro c hc
  have h : c ∈ (Str.ofString a).cps.toList ++ (Str.ofString b).cps.toList := by
    rw [← Array.toList_append]
    exact hc
  rcases List.mem_append.mp h with h | h
  · exact ofString_cps a c h
  · exact ofString_cps b c h
theorem same_upd2 {H : Hp} {p : Addr} {o o' : HO} (n : H p = none) : Same H (upd (upd H p o) p o') := fun b u e => by
  rw [upd_ne (ne_of_none e n), upd_ne (ne_of_none e n)]
  exact e
section
variable {P : Program} {w : World} {K : PySem.W.Frag} {mg : Str → Option Value} {base : Heap}
/-- script[0] if script != [] else 0: some int -/
theorem first_reads {σ : L2.St} {H : Hp} {Q : VK} {a : Addr} {ns : List Int} (hσ : σ[0]? = some (some (.ref a))) (hs : SqL K H a (ns.map V.int)) (h : ∀ z H1, Same H H1 → Q (.int z) H1) :
    tIf (tTest (tOp (rNeD K) (tVar 0) (tLst tNil))) (tOp (rIxL K) (tVar 0) (tC (.int 0))) (tC (.int 0)) σ H Q := by
  refine ⟨_, hσ, by show 0 ≤ sizeLine; exact Nat.zero_le _, fun p hp => ?_⟩
  have s1 : Same H (upd H p (.lst [])) := same_upd hp
  refine ⟨.list (ns.map PyData.int), .list [], .lst (s1.seq hs) (dp_ints ns), .lst (SqL.of upd_same) .nil, shaped_ints ns, by decide +kernel, _, rfl, ?_⟩
  cases ns with
  | nil =>
    refine ifF (by simp [PyData.eqv, PyData.eqvAll]) (h 0 _ s1)
  | cons n r =>
    refine ifT (by simp [PyData.eqv, PyData.eqvAll]) ⟨_, hσ, a, _, 0, .int n, rfl, rfl, s1.seq hs, ?_, h n _ s1⟩
    have e : atI ((n :: r).map V.int) ((0 : Nat) : Int) = some (.int n) := atI_nat rfl
    exact e
abbrev rInt1 : List V → Hp → VK → Prop := fun xs H Q => (∃ i, xs = [.int i] ∧ Q (.int i) H) ∨ ∃ k, xs = [.bl k] ∧ Q (.int (if k then 1 else 0)) H
theorem cell_reads {σ : L2.St} {H : Hp} {Q : VK} {a : Addr} {ns : List Int} (hσ : σ[0]? = some (some (.ref a))) (hs : SqL K H a (ns.map V.int)) (h : ∀ c H1, 0 ≤ c → c < 10 ^ 9 → Same H H1 → Q (.int c) H1) :
    tOp (rI (fun _ j => 0 < j) fun i j => .int (i % j)) (tCB rInt1 (tCons (tIf (tTest (tOp (rNeD K) (tVar 0) (tLst tNil))) (tOp (rIxL K) (tVar 0) (tC (.int 0))) (tC (.int 0))) tNil)) (tOp (rI CPow fun i j => .int (i ^ j.toNat)) (tC (.int 10)) (tC (.int 9))) σ H Q := by
  refine first_reads hσ hs fun z H1 s1 => .inl ⟨z, rfl, _, _, rfl, rfl, ⟨by decide, by decide, by decide⟩, z, 10 ^ (9 : Int).toNat, rfl, rfl, (by show (0 : Int) < 10 ^ 9; decide), ?_⟩
  exact h _ _ (Int.emod_nonneg _ (by decide)) (Int.emod_lt_of_pos _ (by decide)) s1
def spLaw (K : PySem.W.Frag) : Sp := fun vs H Q _ => ∃ (a : Addr) (ns : List Int), vs = [.ref a] ∧ SqL K H a (ns.map V.int) ∧ ∀ H', Q (.bl true) H'
abbrev nLaw : List Str := ["_law_script", "_law_cell", "_law_some", "_law_value"]
theorem scL : FnScope nLaw ["_law_script"] (defScope sLaw) := ⟨rfl, rfl, rfl, by decide +kernel, rfl, by decide +kernel, by decide +kernel⟩
theorem ok_law {f fQ fM fK : Addr} {fd fdQ fdM fdK fdI : FuncData} (F : FnP K "law" "law" sLaw f fd) (T : Txt K mg) (FI : FnP K "__init__" "WireError.__init__" sInit (fI K) fdI)
    (FM : FnP K "_law_made" "_law_made" sMade fM fdM) (FK : FnP K "_law_marked" "_law_marked" sMarked fK fdK) (FQ : FnP K "_law_is_kept" "_law_is_kept" sKept fQ fdQ) (gM : mg "_law_made" = some (.ref fM)) (gK : mg "_law_marked" = some (.ref fK))
    (gQ : mg "_law_is_kept" = some (.ref fQ)) : FnG P w K mg base CX0 5 f fd ["_law_script"] (spLaw K) := by
  have GQ : FnG P w K mg base CX0 4 fQ fdQ ["_law_value"] (spKept K) := ok_kept FQ T FI FM FK gM gK
  have bQ : Binds K fdQ ["_law_value"] [] := FQ.bindsN fun _ _ _ _ _ _ us hl => match us, hl with | [_], _ => rfl
  refine okG F scL (fun vs H Q E h => ?_) (fun cdv A outer s H vs Q E hg hr h => ?_)
  · obtain ⟨a, ns, rfl, _⟩ := h
    rfl
  · obtain ⟨a, ns, rfl, hs, k⟩ := h
    have un := hr.un
    refine ⟨_, PSs.nox (pss_cons (ps_set (i := 1) scL.nd rfl (Or.inl rfl) (pe_op op_mod (pe_callTy call_int1 rfl (T.free _ (by decide +kernel)) boot_int
          (pa_cons (pe_ifExp (pt_cmpR (op_neD (by show (A.deeper _).units + 64 < cLine; omega)) (pv 0) (pe_lst pa_nil) (nomark _)) (pe_ix ix_list (pv 0) pe_int (fun _ _ => rfl)) pe_int) pa_nil)) (pe_op op_pow pe_int pe_int)))
      (pss_cons (ps_set (i := 2) scL.nd rfl (Or.inl rfl) (pe_lst (pa_cons pe_non (pa_cons (pv 1) (pa_cons (pe_un un_neg (pv 1)) (pa_cons pe_bl
          (pa_cons (pe_op op_add_str pe_str (pe_callTy call_str_int rfl (T.free _ (by decide +kernel)) boot_str (pa_cons (pv 1) pa_nil)))
          (pa_cons (pe_tup (pa_cons (pv 1) (pa_cons pe_str pa_nil))) (pa_cons (pe_lst (pa_cons (pv 1) pa_nil)) (pa_cons (pe_disp (pps_cons pe_str (pv 1) pps_nil) rfl rfl (by simp) (by decide))
          (pa_cons (pe_tup pa_nil) (pa_cons (pe_tup (pa_cons (pe_tup (pa_cons (pv 1) (pa_cons pe_non pa_nil))) (pa_cons (pe_lst pa_nil) pa_nil))) pa_nil))))))))))))
      (pss_one (ps_ret (pe_callB (cr_all rfl) rfl (T.free _ (by decide +kernel)) boot_all (pa_cons (pe_lc (own := [("_law_value", 3)]) (g := gName 3) (tt := tYes) rfl scL.nd (pi_list (pv 2)) (blkOk_by (N := nLaw) (sc := defScope sLaw) (by decide +kernel))
          (fun _ _ _ _ _ => pg_name (i := 3) scL.nd rfl (Or.inl rfl)) (fun _ _ _ _ _ => pts_nil) (fun _ _ _ _ _ => pe_callG GQ hg hr rfl gQ FQ.kp bQ .nil pass0 (pa_cons (pv 3) pa_nil))) pa_nil)))))), ?_⟩
    have big : (100000 : Nat) ≤ sizeLine := by rw [sizeLine_eq]; omega
    refine seq_reads (set_reads (cell_reads rfl hs fun c H1 hc0 hc1 s1 => ?_))
    have hn : c.natAbs < 10 ^ 9 := by omega
    have hn' : (-c).natAbs < 10 ^ 9 := by omega
    have l1 : (toString c).length ≤ 10 := int_text_length_le10 (by decide) hn
    have l2 : (toString (-c)).length ≤ 10 := int_text_length_le10 (by decide) hn'
    have p1 : c.natAbs.log2 < 1920 := log_small (Nat.lt_of_lt_of_le hn (by decide +kernel))
    have p2 : (-c).natAbs.log2 < 1920 := log_small (Nat.lt_of_lt_of_le hn' (by decide +kernel))
    have l3 : (("text " : String) : Str).length + (Str.ofString (toString c)).length ≤ 15 := by
      rw [PySem.ofString_length (toString c)]
      have e : (("text " : String) : Str).length = 5 := rfl
      omega
    refine ⟨_, rfl, _, rfl, c, rfl, _, rfl, c, rfl, p1, _, _, rfl, rfl, by omega, ?_⟩
    refine ⟨_, rfl, by show 2 ≤ sizeLine; omega, fun a1 n1 => ⟨_, rfl, by show 1 ≤ sizeLine; omega, fun a2 n2 => fun a3 n3 => ⟨_, rfl, upd_same, [(.inr "a", .int c)], rfl, (by show 1 ≤ 15; decide), ?_⟩⟩⟩
    refine ⟨by show 0 ≤ sizeLine; omega, fun a4 n4 => ⟨_, rfl, by show 2 ≤ sizeLine; omega, fun a5 n5 => ⟨by show 0 ≤ sizeLine; omega, fun a6 n6 => ⟨by show 2 ≤ sizeLine; omega, fun a7 n7 => ⟨by show 10 ≤ sizeLine; omega, fun L nL => ?_⟩⟩⟩⟩⟩
    have w2 := same_upd (o := .lst [V.int c]) n2
    have w3 := same_upd2 (o := .dK []) (o' := .dK (mergeK [] [(.inr "a", V.int c)])) n3
    have w4 := same_upd (o := .tup []) n4
    have w5 := same_upd (o := .tup [V.int c, .non]) n5
    have w6 := same_upd (o := .lst []) n6
    have w7 := same_upd (o := .tup [.ref a5, .ref a6]) n7
    have w8 := same_upd (o := .lst [.non, V.int c, V.int (-c), .bl true, .str (("text " : Str) ++ (toString c : String)), .ref a1, .ref a2, .ref a3, .ref a4, .ref a7]) nL
    have f1 := w8 _ _ (w7 _ _ (w6 _ _ (w5 _ _ (w4 _ _ (w3 _ _ (w2 _ _ upd_same))))))
    have f2 := w8 _ _ (w7 _ _ (w6 _ _ (w5 _ _ (w4 _ _ (w3 _ _ upd_same)))))
    have f3 := w8 _ _ (w7 _ _ (w6 _ _ (w5 _ _ (w4 _ _ upd_same))))
    have f4 := w8 _ _ (w7 _ _ (w6 _ _ (w5 _ _ upd_same)))
    have f5 := w8 _ _ (w7 _ _ (w6 _ _ upd_same))
    have f6 := w8 _ _ (w7 _ _ upd_same)
    have f7 := w8 _ _ upd_same
    have all_items : ∀ HL : Hp, HL a1 = some (.tup [V.int c, .str "a"]) → HL a2 = some (.lst [V.int c]) → HL a3 = some (.dK [(.inr "a", V.int c)]) → HL a4 = some (.tup []) → HL a5 = some (.tup [V.int c, .non]) → HL a6 = some (.lst []) → HL a7 = some (.tup [.ref a5, .ref a6]) →
        ∀ y ∈ ([.non, V.int c, V.int (-c), .bl true, .str (("text " : Str) ++ (toString c : String)), .ref a1, .ref a2, .ref a3, .ref a4, .ref a7] : List V), ∃ d t, Dr K HL y d ∧ Shows d t := by
      intro HL f1 f2 f3 f4 f5 f6 f7 y hy
      simp only [List.mem_cons, List.not_mem_nil, or_false] at hy
      rcases hy with rfl | rfl | rfl | rfl | rfl | rfl | rfl | rfl | rfl | rfl
      · exact ⟨_, _, .dp .non, shows_of 100 rfl (by decide) (by decide)⟩
      · exact ⟨_, _, .dp (.int c), shows_of 100 (by simp [PyData.showable, p1]) (by simp only [cost]; omega) (by simp [PyData.depth])⟩
      · exact ⟨_, _, .dp (.int (-c)), shows_of 100 (by simp only [PyData.showable]; exact decide_eq_true p2) (by simp only [cost]; omega) (by simp [PyData.depth])⟩
      · exact ⟨_, _, .dp (.bl true), shows_of 100 rfl (by decide) (by decide)⟩
      · refine ⟨_, _, .dp (.str _), shows_of 200 rfl ?_ (by simp [PyData.depth])⟩
        have e := PySem.StrLaws.reprText_len ((("text " : String) : Str) ++ (toString c : String)) (text_cps _ _)
        rw [strLen_append] at e
        simp only [cost]
        omega
      · exact ⟨_, _, .dp (.tup (SqT.of f1) (.cons (.int c) (.cons (.str "a") .nil))), shows_of 100 (by simp [PyData.showable, PyData.showableAll, p1]) (by simp only [cost, costAll]; have : (reprText (("a" : String) : Str)).length = 3 := (by decide +kernel); omega) (by simp [PyData.depth, PyData.depthAll])⟩
      · exact ⟨_, _, .dp (.lst (SqL.of f2) (.cons (.int c) .nil)), shows_of 100 (by simp [PyData.showable, PyData.showableAll, p1]) (by simp only [cost, costAll]; omega) (by simp [PyData.depth, PyData.depthAll])⟩
      · exact ⟨_, _, .dic (kvs := [(.inr "a", V.int c)]) (ds := [.int c]) f3 (.cons (.int c) .nil), shows_of 100 (by simp [PyData.showable, PyData.showableKv, keyD, p1]) (by simp only [cost, costKv, keyD, List.map_cons, List.map_nil, List.zip_cons_cons, List.zip_nil_left]; have : (reprText (("a" : String) : Str)).length = 3 := (by decide +kernel); omega) (by simp [PyData.depth, PyData.depthKv, keyD])⟩
      · exact ⟨_, _, .dp (.tup (SqT.of f4) .nil), shows_of 100 (by decide) (by decide) (by decide)⟩
      · exact ⟨_, _, .dp (.tup (SqT.of f7) (.cons (.tup (SqT.of f5) (.cons (.int c) (.cons .non .nil))) (.cons (.lst (SqL.of f6) .nil) .nil))), shows_of 100 (by simp [PyData.showable, PyData.showableAll, p1]) (by simp only [cost, costAll]; omega) (by simp [PyData.depth, PyData.depthAll])⟩
    -- return all([_law_is_kept(value) for value in some])
    refine ⟨_, rfl, L, rfl, ⟨_, SqL.of upd_same⟩, fun D hD => lc_list (K := K) (a := L) (xs := [.non, V.int c, V.int (-c), .bl true, .str (("text " : Str) ++ (toString c : String)), .ref a1, .ref a2, .ref a3, .ref a4, .ref a7])
      (fun i H' => H' D = some (.lst (List.replicate i (V.bl true))) ∧ Same _ H') ⟨upd_same, same_upd hD⟩ (fun i H' _ ⟨_, sm⟩ => sm.seq (SqL.of upd_same)) ?_ ?_⟩
    · rintro i y H5 hi ⟨hD5, s5⟩
      obtain ⟨d, t, hd, ht⟩ := all_items _ f1 f2 f3 f4 f5 f6 f7 y (List.mem_of_getElem? hi)
      have i10 : i < 10 := (List.getElem?_eq_some_iff.mp hi).1
      refine ⟨rfl, _, rfl, y, d, t, rfl, hd.same s5, ht, fun H6 s6 => ⟨_, s6 _ _ hD5, by rw [List.length_replicate]; omega, ?_, fun b o e => ?_⟩⟩
      · rw [upd_same, List.replicate_succ']
      · rw [upd_ne (ne_of_none e hD)]
        exact s6 _ _ (s5 _ _ e)
    · rintro H6 ⟨hD6, s6⟩
      exact ⟨D, List.replicate 10 true, rfl, SqL.of hD6, k _⟩
end
end K00

set_option Elab.async false
set_option linter.all false
set_option maxRecDepth 100000
set_option maxHeartbeats 0
namespace K00
open PySem PySem.Spec PyProof.Rows L2 Lw
def all34 : List Str := ("WireError" : Str) :: names
def frees : List Str := ["isinstance", "enumerate", "range", "repr", "ValueError", "int", "str", "all"]
def gloB (K : PySem.W.Frag) (x : Str) : Bool := He.eqO (PySem.W.nsIn K mainGlobals x) (some (some (.ref (ga K x))))
def clsB (K : PySem.W.Frag) (x : Str) : Bool := gloB K x && (xcB K (ga K x) && (He.eqO (PySem.W.findIn K (.ref (ga K x)) "__init__") (some (some (.ref (fI K)))) &&
  (decide (PySem.W.kitOne K (.ref (ga K x)) (.ref (ga K "WireError")) = some true) && decide (PySem.W.kitOne K (.ref (ga K x)) (.type "ValueError") = some true))))
def nameB (K : PySem.W.Frag) (y : Str) : Bool := decide (PySem.W.kitOne K (.ref (ga K "WireError")) (.ref (ga K y)) = some false) && (decide (PySem.W.kitOne K (.type "ValueError") (.ref (ga K y)) = some false) &&
  names.all fun x => decide (PySem.W.kitOne K (.ref (ga K x)) (.ref (ga K y)) = some (decide (x = y))))
def chk (K : PySem.W.Frag) : Bool := (all34.all fun x => clsB K x) && ((names.all fun y => nameB K y) && (decide (PySem.W.typeIn K (.ref (fI K)) = some (.type "function")) &&
  ((frees.all fun x => He.eqO (PySem.W.nsIn K mainGlobals x) (some none)) && (([Str.ofString "_law_made", Str.ofString "_law_marked", Str.ofString "_law_is_kept", Str.ofString "law"]).all fun x => gloB K x))))
def dI : He.DefD := ⟨("WireError", some "__init__"), "__init__", "WireError.__init__", defArgs sInit, defBody sInit, defScope sInit, [], []⟩
def dM : He.DefD := ⟨("_law_made", none), "_law_made", "_law_made", defArgs sMade, defBody sMade, defScope sMade, [], []⟩
def dK : He.DefD := ⟨("_law_marked", none), "_law_marked", "_law_marked", defArgs sMarked, defBody sMarked, defScope sMarked, [], []⟩
def dQ : He.DefD := ⟨("_law_is_kept", none), "_law_is_kept", "_law_is_kept", defArgs sKept, defBody sKept, defScope sKept, [], []⟩
def dL : He.DefD := ⟨("law", none), "law", "law", defArgs sLaw, defBody sLaw, defScope sLaw, [], []⟩
def fn : List He.DefD := [dI, dM, dK, dQ, dL]
def loose : List Str := all34 ++ [Str.ofString "_law_made", Str.ofString "_law_marked", Str.ofString "_law_is_kept"]
abbrev R : PySem.W.OpenRow := PySem.W.OpenLaw.row PySem.Challenge.rw_landingwires_k00_errors_and_what_they_ke
abbrev hk : PySem.W.Hook := hookL 5 chk fn
def ob (s : PySem.W.SharedT) : He.AlD := obsLG 5 chk fn (HandSHeadRun.getT s)
theorem ob_eq (s : PySem.W.SharedT) : ob s = hk.obs s.abs := obsLG_eq (HandSHeadRun.getT_eq s)
theorem run (w : World) : HandSHeadRun.RunEq R (PySem.W.view R.prog [39]) hk ob 8000 loose w := by
  intro os
  kernel_rfl
theorem txt_of {K : PySem.W.Frag} {h : Heap} {mg : Str → Option Value} (X : K.In h) (G : h.Ns mainGlobals mg) (c : chk K = true) : Txt K mg ∧ ∀ x ∈ ([Str.ofString "_law_made", Str.ofString "_law_marked", Str.ofString "_law_is_kept", Str.ofString "law"]), mg x = some (.ref (ga K x)) := by
  unfold chk at c
  obtain ⟨c1, c⟩ := He.ba c
  obtain ⟨c2, c⟩ := He.ba c
  obtain ⟨c3, c⟩ := He.ba c
  obtain ⟨c4, c5⟩ := He.ba c
  have cl : ∀ x ∈ all34, clsB K x = true := List.all_eq_true.mp c1
  have cn : ∀ y ∈ names, nameB K y = true := List.all_eq_true.mp c2
  refine ⟨{ gl := fun x hx => ?_, xc := fun x hx => ?_, ini := fun x hx => ?_, tI := of_decide_eq_true c3, kit := fun x hx y hy => ?_, kW := fun x hx => ?_, kV := fun x hx => ?_, kN := fun y hy => ?_, kB := fun y hy => ?_, free := fun x hx => ?_ }, fun x hx => ?_⟩
  · exact PySem.W.mg_of X G (He.eqO_ok (He.ba (cl x hx)).1)
  · exact xcB_ok (He.ba (He.ba (cl x hx)).2).1
  · exact He.eqO_ok (He.ba (He.ba (He.ba (cl x hx)).2).2).1
  · exact of_decide_eq_true (List.all_eq_true.mp (He.ba (He.ba (cn y hy)).2).2 x hx)
  · exact of_decide_eq_true (He.ba (He.ba (He.ba (He.ba (cl x hx)).2).2).2).1
  · exact of_decide_eq_true (He.ba (He.ba (He.ba (He.ba (cl x hx)).2).2).2).2
  · exact of_decide_eq_true (He.ba (cn y hy)).1
  · exact of_decide_eq_true (He.ba (He.ba (cn y hy)).2).1
  · exact PySem.W.mg_none_of X G (He.eqO_ok (List.all_eq_true.mp c4 x hx))
  · exact PySem.W.mg_of X G (He.eqO_ok (List.all_eq_true.mp c5 x hx))
theorem facts {P : Program} {w : World} {K : PySem.W.Frag} {h : Heap} {mg : Str → Option Value} {f : Addr} (X : K.In h) (G : h.Ns mainGlobals mg) (hfa : mg ("law" : Str) = some (.ref f)) (c : SaysL chk fn K) :
    ∃ fd : FuncData, (∀ (s : Shared) (v : Value), BindsTo s fd ⟨[v], []⟩ [("_law_script", v)]) ∧ ∀ base : Heap, K.In base → base.Ns mainGlobals mg → FnG P w K mg base CX0 5 f fd ["_law_script"] (spLaw K) := by
  obtain ⟨T, gl⟩ := txt_of X G c.chk
  obtain ⟨fdI, FI⟩ := c.def_ 0 (d := dI) rfl
  obtain ⟨fdM, FM⟩ := c.def_ 1 (d := dM) rfl
  obtain ⟨fdK, FK⟩ := c.def_ 2 (d := dK) rfl
  obtain ⟨fdQ, FQ⟩ := c.def_ 3 (d := dQ) rfl
  obtain ⟨fd, F⟩ := c.def_ 4 (d := dL) rfl
  have e := hfa.symm.trans (gl (Str.ofString "law") (by decide +kernel))
  cases e
  have b := FunD.bindsA (ps := ["_law_script"]) F fun _ _ _ _ _ _ us hl => match us, hl with | [_], _ => rfl
  exact ⟨fd, fun s v => b s [v] rfl, fun base _ _ => ok_law F T FI FM FK FQ (gl (Str.ofString "_law_made") (by decide +kernel)) (gl (Str.ofString "_law_marked") (by decide +kernel)) (gl (Str.ofString "_law_is_kept") (by decide +kernel))⟩
end K00
open PySem PySem.W PySem.Calls PyProof.Rows
theorem PySem.Challenge.cw_landingwires_k00_errors_and_what_they_ke_holds : PySem.Challenge.rw_landingwires_k00_errors_and_what_they_ke.Holds := by
  w_on; o_law
  refine HandSHeadRun.head_any (r := K00.R) (q := view K00.R.prog [39]) (H := K00.hk) (ob := K00.ob) (M := 8000) (loose := K00.loose) (d := HandSHeadRun.topDef K00.R.prog 39) (kwd := []) K00.ob_eq
    (by kernel_rfl) (fun s => by kernel_rfl) K00.run (by kernel_rfl) (by kernel_rfl) (by kernel_rfl) (by rfl) (by first | assumption | decide +kernel) (by decide +kernel) ⟨rfl, rfl, rfl, rfl, rfl, by decide +kernel⟩ ?hw ?hc
  case hw => w_witness2
  case hc =>
    refine Lw.walkG (l := PySem.Challenge.rw_landingwires_k00_errors_and_what_they_ke) (n := 63) (k := 5) (x := "_law_script") (CX := L2.CX0) rfl (by decide) (by kernel_rfl) ⟨rfl, by decide, by decide⟩ ?F (fun _ _ _ _ z => z)
    intro w mg fa h Y G hmg0
    obtain ⟨K, KX, c⟩ := Y
    have hmg : mg ("law" : PySem.Str) = some (.ref fa) := by
      have e : (HandSHeadRun.topDef K00.R.prog 39).name = ("law" : PySem.Str) := by kernel_rfl
      rw [← e]
      exact hmg0
    obtain ⟨fd, hb, hF⟩ := K00.facts (P := PySem.Challenge.rw_landingwires_k00_errors_and_what_they_ke.prog) (w := w) KX G hmg c
    exact ⟨K, fd, K00.spLaw K, KX, hb, fun H a ns hl _ hS => ⟨a, ns, rfl, hS, fun _ => rfl⟩, hF⟩
#print axioms PySem.Challenge.cw_landingwires_k00_errors_and_what_they_ke_holds
