import PyProof.Rows.All
import Wide.All
import OpenK.AllK
import Wide.FinOn
import KE.KStateDown
import KE.KExcIs
import HandS.ForMost
import HandS.ForExc
import HandS.ExcInit
import HandS.IsInst
import HandS.Flow
import HandS.Defaults
import HandS.Head0
import HandS.Head1
import HandS.Head2
import HandS.HeadEnd
import HandS.HeadHook1
import HandS.HeadHook2
import HandS.ExcValue
import HandS.ExcBuiltin
import HandS.Property
import HandS.SlotsOwn
import KE.GoesEnum
import HandS.Walk
import KE.KDictZip
import HandS.Zip
import HandS.OwnIter
import HandS.SetFor
import HandS.Strs
import HandS.Wide
import HandS.TupAny
import HandS.Deep
import HandS.HeadNt
import HandS.Lambda
import HandS.HeadHook4
import HandS.EndTab
import HandS.Conv
import HandS.NoneIn
import HandS.Dict
import HandS.Style
import PySem.Challenge.RW_landingwires_k02_standings_put_together
set_option Elab.async false
set_option linter.all false
set_option maxRecDepth 100000
set_option maxHeartbeats 4000000
/-! Defs that show values (repr): the promise of a def where nothing is being shown around the call. -/
namespace Lw
open PySem PySem.Spec PyProof.Rows L2
/-- a def's promise, wherever no repr runs around it -/
structure FnG (P : Program) (w : World) (K : PySem.W.Frag) (mg : Str → Option Value) (base : Heap) (CX : CXT) (k : Nat) (f : Addr) (fd : FuncData) (ps : List Str) (sp : Sp) : Prop where
  len : ∀ vs H Q E, sp vs H Q E → vs.length = ps.length
  run : ∀ (A : Around) (outer : List Env) (s : Shared) (H : Hp) (args : Args) (us : List Value) (vs : List V) (Q : VK) (E : XK), A.guards = some [] → Room k A →
    Env0 P w K mg base A outer s H → BindsTo s fd args (ps.zip us) → Vals vs us → sp vs H Q E → codeAny (model P w) A (.call (.ref f) args) (CR CX outer P w H s Q E) s
section
variable {P : Program} {w : World} {K : PySem.W.Frag} {mg : Str → Option Value} {base : Heap} {CX : CXT} {k : Nat} {f : Addr} {fd : FuncData} {ps : List Str} {sp : Sp}
theorem FnG.of (F : FnOk P w K mg base CX k f fd ps sp) : FnG P w K mg base CX k f fd ps sp :=
  ⟨F.len, fun A outer s H args us vs Q E _ => F.run A outer s H args us vs Q E⟩
theorem FnG.mono {j : Nat} (F : FnG P w K mg base CX j f fd ps sp) (h : j ≤ k) : FnG P w K mg base CX k f fd ps sp :=
  ⟨F.len, fun A outer s H args us vs Q E hg hr => F.run A outer s H args us vs Q E hg (hr.mono h)⟩
/-- a def of the text by its body, guards known -/
theorem fnG_of {name qual : Str} {params : Arguments} {body : List Stmt} {scope : Scope} {dV kV doc pm cdv ct oc : Value} {an od : Option Addr} {osl : Array (Option Value)} {N : List Str}
    (lk : K.lookup f = some ⟨oc, od, .func (PySem.W.fnOf name qual params body scope dV kV doc pm an cdv ct), osl⟩) (hcd : PySem.W.codeIn K cdv qual = true) (S : FnScope N ps scope)
    (len : ∀ vs H Q E, sp vs H Q E → vs.length = ps.length)
    (hb : ∀ (A : Around) (outer : List Env) (s : Shared) (H : Hp) (vs : List V) (Q : VK) (E : XK), A.guards = some [] → Room k (A.deeper (envOfC qual scope s.heap.objs.size f cdv)) → sp vs H Q E →
      ∃ t, PSs (cxOf CX P w K mg base N qual scope f cdv A outer s H E) body t ∧ t { nx := fun _ H' => Q .non H', rt := Q } (start N vs) H) :
    FnG P w K mg base CX (k + 1) f (PySem.W.fnOf name qual params body scope dV kV doc pm an cdv ct) ps sp := by
  constructor
  · exact len
  intro A outer s H args us vs Q E hg hr e0 hbind rv want
  have old : ∀ b o, base.get? b = some o → s.heap.get? b = some o := fun b o e => (e0.bs b o e).1
  have kin : K.In s.heap := e0.mod.kin.keeps old
  have kinds : ∀ y ∈ ps.zip us, scope.names.lookup y.1 = some .local ∨ (scope.names.lookup y.1 = some .cell ∧ ((cellsFrom (s.heap.objs.size + 1) scope.names []).lookup y.1).isSome = true) := by
    rintro ⟨n, v⟩ hy
    cases S.par n (List.of_mem_zip hy).1 with
    | inl q => exact .inl q
    | inr q => exact .inr ⟨q, PySem.W.cellsFrom_some _ _ _ (.inl q)⟩
  refine codeAny_call_function hr.depth (kin _ _ lk) rfl S.co S.gen rfl (PySem.W.codeRec_of kin hcd) (hbind _ _ _ _ (wpAny_newFunctionEnv_cells S.kind kinds ?_))
  rintro env rfl s1 x
  obtain ⟨t, ht, hq⟩ := hb A outer s H vs Q E hg (hr.deeper _) want
  refine ⟨(e0.mod.nolimit.keeps old).keeps x.toInCall.keep, codeAny_func ?_⟩
  have I := inv_start (CX := CX) (N := N) (E := E) S hr.hd e0 (len _ _ _ _ want) rv x
  refine wpAny_mono (ht.run [] s1 (start N vs) H _ I hq) (fun fl s' hs => ?_) fun _ _ z => z
  cases fl with
  | ret u =>
    obtain ⟨v, σ', H', J, r, q⟩ := hs
    exact ⟨v, H', J.os, J.bare, J.base, J.hok, r, q⟩
  | next =>
    obtain ⟨σ', H', J, q⟩ := hs
    exact ⟨V.non, H', J.os, J.bare, J.base, J.hok, rfl, q⟩
  | brk =>
    obtain ⟨_, _, _, q⟩ := hs
    cases q
  | cont =>
    obtain ⟨_, _, _, q⟩ := hs
    cases q
theorem okG {x qual : Str} {params : Arguments} {body : List Stmt} {scope : Scope} {N : List Str} (F : FunD K x qual params body scope [] [] f fd) (S : FnScope N ps scope) (len : ∀ vs H Q E, sp vs H Q E → vs.length = ps.length)
    (hb : ∀ (cdv : Value) (A : Around) (outer : List Env) (s : Shared) (H : Hp) (vs : List V) (Q : VK) (E : XK), A.guards = some [] → Room k (A.deeper (envOfC qual scope s.heap.objs.size f cdv)) → sp vs H Q E →
      ∃ t, PSs (cxOf CX P w K mg base N qual scope f cdv A outer s H E) body t ∧ t { nx := fun _ H' => Q .non H', rt := Q } (start N vs) H) : FnG P w K mg base CX (k + 1) f fd ps sp := by
  obtain ⟨oc, od, dV, kV, doc, pm, an, cdv, ct, osl, rfl, lk, hcd, _, _⟩ := F.ex
  exact fnG_of lk hcd S len fun A outer s H vs Q E => hb cdv A outer s H vs Q E
end
section
variable {X : Cx} {CX : CXT} {k : Nat} {f : Addr} {fd : FuncData} {ps : List Str} {sp : Sp} {dvs : List V} {ds : List Value} {E : XK} {x : Str} {p pos : Pos} {e : Expr} {es : List Expr} {t : TA}
theorem runG {pins : List (Addr × Obj)} {σ : L2.St} {H : Hp} {s : Shared} {Q : VK} {us : List Value} {vs : List V} (F : FnG X.prog X.w X.K X.mg X.base CX k f fd ps sp) (hg : X.A.guards = some []) (hr : Room k X.A) (hb : Binds X.K fd ps ds) (hd : Vals dvs ds)
    (hx : Passes CX X E) (I : Inv X pins σ H s) (r : Vals vs us) (h : sp (vs ++ dvs) H Q E) : wpAny (model X.prog X.w) X.A (call (.ref f) us) (EP X pins σ Q) X.xe s := by
  have r2 := r.append hd
  have hl : (us ++ ds).length = ps.length := r2.length.symm.trans (F.len _ _ _ _ h)
  refine wpAny_call (codeAny_mono (F.run X.A X.stack s H ⟨us, []⟩ _ _ Q E hg hr I.env0 (hb s us I.kIn hl) r2 h) ?_)
  intro res s' hq
  match res, hq with
  | .error er, hq => exact hx pins σ H s er s' I hq
  | .ok (.ret u), hq => exact I.after hq
  | .ok .next, hq => exact hq.elim
  | .ok .brk, hq => exact hq.elim
  | .ok .cont, hq => exact hq.elim
/-- f(e, ..) -/
theorem pe_callG (F : FnG X.prog X.w X.K X.mg X.base CX k f fd ps sp) (hgd : X.A.guards = some []) (hr : Room k X.A) (hg : Gl X x) (hm : X.mg x = some (.ref f)) (hk : PySem.W.keepIn X.K (.ref f) = true) (hb : Binds X.K fd ps ds) (hd : Vals dvs ds) (hx : Passes CX X E)
    (ha : PA X (e :: es) t) (hdb : (x == ("__debug__" : Str)) = false := by decide) (he : starEach (e :: es) X.env = (false, eval e X.env) :: starEach es X.env := by rfl) (hpl : (backTo pos (starEach es X.env)).any (·.1) = false := by rfl) :
    PE X (.Call (.Name x p) (e :: es) [] pos) (tCall sp dvs E t) :=
  ⟨fun pins s σ H Q I h => wpAny_Call_Name_kw (ld_glob I hg hm (PySem.W.callWith_K (h₀ := X.base) I.ok.mod.kin hk
    (thn (ha.run pos pins s σ H _ I h) fun us s1 ⟨vs, H1, I1, r, q⟩ => ⟨I1.kIn, runG F hgd hr hb hd hx I1 r q⟩) he hpl) hdb)⟩
end
/-! ### repr -/
/-- data: none, bools, ints, texts, lists, tuples, dicts of int and text keys -/
def keyD : Key → PyData
  | .inl i => .int i
  | .inr x => .str x
/-- data without dicts, or a dict of flat values -/
inductive Flat : V → PyData → Prop
  | non : Flat .non .none
  | bl (b : Bool) : Flat (.bl b) (.bool b)
  | int (i : Int) : Flat (.int i) (.int i)
  | str (x : Str) : Flat (.str x) (.str x)
inductive Dr (K : PySem.W.Frag) (H : Hp) : V → PyData → Prop
  | dp {v : V} {d : PyData} : Dp K H v d → Dr K H v d
  | dic {a : Addr} {kvs : List (Key × V)} {ds : List PyData} : H a = some (.dK kvs) → Paired Flat (kvs.map (·.2)) ds → Dr K H (.ref a) (.dict ((kvs.map fun q => keyD q.1).zip ds))

mutual
theorem dp_noDict {K : PySem.W.Frag} {H : Hp} : ∀ (d : PyData) (v : V), Dp K H v d → d.hasDict = false
  | .none, _, _ => rfl
  | .bool _, _, _ => rfl
  | .int _, _, _ => rfl
  | .str _, _, _ => rfl
  | .list ds, _, h => by
    cases h with
    | lst _ ha =>
      rw [PyData.hasDict]
      exact dpAll_noDict ds _ ha
  | .tuple ds, _, h => by
    cases h with
    | tup _ ha =>
      rw [PyData.hasDict]
      exact dpAll_noDict ds _ ha
  | .dict _, _, h => by cases h
theorem dpAll_noDict {K : PySem.W.Frag} {H : Hp} : ∀ (ds : List PyData) (vs : List V), DpAll K H vs ds → PyData.hasDictAll ds = false
  | [], _, _ => rfl
  | d :: ds, _, h => by
    cases h with
    | cons h1 h2 =>
      rw [PyData.hasDictAll, dp_noDict d _ h1, dpAll_noDict ds _ h2]
      rfl
end
theorem reads_keys {P : Program} {w : World} {h : Heap} {es : List DictEntry} {vs : List (Key × Value)} (p : Pairs (mixKind P w) es vs) : ReadsAll h (es.map (·.key)) (vs.map fun q => keyD q.1) [] := by
  induction p with
  | nil => exact .nil
  | @cons e kv es kvs h1 h2 _ ih =>
    have one : Reads h e.key (keyD kv.1) [] := by
      rcases keyIs_shape (show keyIs kv.1 e.key = true from h1) with ⟨i, t, e1, e2⟩ | ⟨x, t, e1, e2⟩
      · rw [e1, e2]
        exact Reads.int i t
      · rw [e1, e2]
        exact Reads.str x t
    exact ReadsAll.cons one ih
theorem reads_flat {h : Heap} : ∀ {ws : List V} {ds : List PyData} {us : List Value}, Paired Flat ws ds → Vals ws us → ReadsAll h us ds []
  | _, _, _, .nil, .nil => .nil
  | _, _, _, .cons f p, .cons r q => by
    refine ReadsAll.cons (as := []) ?_ (reads_flat p q)
    cases f with
    | non => cases r; exact Reads.none
    | bl b => cases r; exact Reads.bool b
    | int i => obtain ⟨t, rfl⟩ := r; exact Reads.int i t
    | str x => obtain ⟨t, rfl⟩ := r; exact Reads.str x t
theorem kv_keys : ∀ {kvs : List (Key × V)} {vs : List (Key × Value)}, KV kvs vs → kvs.map (fun q => keyD q.1) = vs.map fun q => keyD q.1
  | _, _, .nil => rfl
  | _, _, .cons h t => by
    rw [List.map_cons, List.map_cons, kv_keys t, h.1]
theorem kv_vals : ∀ {kvs : List (Key × V)} {vs : List (Key × Value)}, KV kvs vs → Vals (kvs.map (·.2)) (vs.map (·.2))
  | _, _, .nil => .nil
  | _, _, .cons h t => .cons h.2 (kv_vals t)
theorem pairs_vals {P : Program} {w : World} {es : List DictEntry} {vs : List (Key × Value)} (p : Pairs (mixKind P w) es vs) : es.map (·.val) = vs.map (·.2) := by
  induction p with
  | nil => rfl
  | cons _ h2 _ ih => rw [List.map_cons, List.map_cons, ih, h2]
theorem paired_len {α β : Type} {F : α → β → Prop} : ∀ {l : List α} {m : List β}, Paired F l m → l.length = m.length
  | _, _, .nil => rfl
  | _, _, .cons _ t => by rw [List.length_cons, List.length_cons, paired_len t]
section
variable {X : Cx} {pins : List (Addr × Obj)} {σ : L2.St} {H : Hp} {s : Shared}
theorem Dr.reads {v : V} {d : PyData} {u : Value} (I : Inv X pins σ H s) (h : Dr X.K H v d) (r : RelV v u) : ∃ as, Reads s.heap u d as ∧ (d.hasDict = true → sysModules ∉ as) := by
  cases h with
  | dp h =>
    obtain ⟨as, q⟩ := Dp.reads I d v u h r
    refine ⟨as, q, fun z => ?_⟩
    rw [dp_noDict d v h] at z
    cases z
  | @dic a kvs ds ea f =>
    cases (show u = Value.ref a from r)
    obtain ⟨_, ns, vs, kv, o, es, ep, ho, ex, hd, _, pr, _⟩ := (show ObjOk X.prog X.w H s.heap a (.dK kvs) from I.hok a _ ea)
    have l1 : (kvs.map fun q => keyD q.1).length = ds.length := by
      have e := paired_len f
      rw [List.length_map] at e ⊢
      exact e
    refine ⟨_, Reads.dict (as := []) (bs := []) ho ex.1 hd ?_ ?_, fun _ z => ?_⟩
    · rw [List.map_fst_zip (Nat.le_of_eq l1), kv_keys kv]
      exact reads_keys pr
    · rw [List.map_snd_zip (Nat.le_of_eq l1.symm), pairs_vals pr]
      exact reads_flat f (kv_vals kv)
    · rcases List.mem_cons.mp (show sysModules ∈ a :: ([] : List Addr) from z) with e | e
      · rw [← e] at ns
        exact absurd (beq_self_eq_true sysModules) (by rw [ns]; exact Bool.false_ne_true)
      · cases e
end
/-- what repr asks of the data: ints below the digits' line, a text that fits, not too deep -/
structure Shows (d : PyData) (x : Str) : Prop where
  eq : d.shown = x
  sh : d.showable = true
  len : d.shown.length ≤ sizeLine
  dep : d.depth ≤ 60
def rRepr (K : PySem.W.Frag) : List V → Hp → VK → Prop := fun xs H Q => ∃ v d x, xs = [v] ∧ Dr K H v d ∧ Shows d x ∧ Q (.str x) H
theorem call_repr {X : Cx} (hg : X.A.guards = some []) (hu : X.A.units + 61 < cLine) : CallR X (.builtin "repr") (rRepr X.K) := by
  intro pins s σ H xs us Q I r h
  obtain ⟨v, d, x, rfl, hd, ⟨rfl, h1, h2, h3⟩, q⟩ := h
  obtain ⟨u, rfl, ru⟩ := r.one
  obtain ⟨as, rd, hsys⟩ := hd.reads I ru
  cases rd with
  | none => exact PySem.P.repr_of_none ⟨.str _, H, I.tok _, ⟨_, rfl⟩, q⟩
  | bool b => exact PySem.P.repr_of_bool ⟨.str _, H, I.tok _, ⟨_, rfl⟩, q⟩
  | int i t => exact PySem.P.repr_of_int (by simpa [PyData.showable] using h1) ⟨.str _, H, I.tok _, ⟨_, rfl⟩, q⟩
  | str y t => exact PySem.P.repr_of_str ⟨.str _, H, I.tok _, ⟨_, rfl⟩, q⟩ h2
  | list a1 a2 a3 a4 => exact repr_of_reads' (Reads.list a1 a2 a3 a4) h1 hsys hg (by omega) (fun _ _ z => z) (fun h' t tk k => ⟨.str _, H, I.kept (t' := tk) k, ⟨_, rfl⟩, q⟩) h2
  | tuple a1 a2 a3 a4 => exact repr_of_reads' (Reads.tuple a1 a2 a3 a4) h1 hsys hg (by omega) (fun _ _ z => z) (fun h' t tk k => ⟨.str _, H, I.kept (t' := tk) k, ⟨_, rfl⟩, q⟩) h2
  | dict a1 a2 a3 a4 a5 => exact repr_of_reads' (Reads.dict a1 a2 a3 a4 a5) h1 hsys hg (by omega) (fun _ _ z => z) (fun h' t tk k => ⟨.str _, H, I.kept (t' := tk) k, ⟨_, rfl⟩, q⟩) h2
end Lw

set_option Elab.async false
set_option linter.all false
set_option maxRecDepth 100000
set_option maxHeartbeats 4000000
/-! Own exceptions with one field, made, held and looked at as values. -/
namespace Lw
open PySem PySem.Spec PyProof.Rows L2
/-- the class at C stands over ValueError, with a dict, without a __del__ -/
def oexB (K : PySem.W.Frag) (C : Addr) : Bool := match K.lookup C with
  | some ⟨.type "type", _, .cls cd, sl⟩ =>
    (match cd.mro, sl.toList with
    | .ref D :: bm, [_, _, _, _, some (.builtin n), _] => (D == C && n == "ValueError.__new__") && ((!cd.hasDel && cd.hasDict) && PySem.HandSPX.refsVE bm)
    | _, _ => false)
  | _ => false
theorem oexB_ok {K : PySem.W.Frag} {C : Addr} (h : oexB K C = true) :
    ∃ nm q N bs bm sn sub ab col dd k0 k1 k2 k3 k5, K.lookup C = some (excClassObj nm q C N bs bm true sn sub ab col dd k0 k1 k2 k3 k5 "ValueError.__new__") ∧ PySem.HandSPX.refsVE bm = true := by
  unfold oexB at h
  split at h
  case h_2 => cases h
  case h_1 dd cd sl ho =>
    split at h
    case h_2 => cases h
    case h_1 D bm k0 k1 k2 k3 n k5 hm hs =>
      obtain ⟨nm, bs, mro, ns, qn, hd, sn, sub, ab, col, del⟩ := cd
      dsimp only at hm h
      simp only [Bool.and_eq_true, beq_iff_eq, Bool.not_eq_true'] at h
      obtain ⟨⟨rfl, rfl⟩, ⟨rfl, rfl⟩, hr⟩ := h
      subst hm
      have e : sl = #[k0, k1, k2, k3, some (.builtin "ValueError.__new__"), k5] := by
        rw [← hs]
      subst e
      exact ⟨nm, qn, ns, bs, bm, sn, sub, ab, col, dd, k0, k1, k2, k3, k5, ho, hr⟩
/-- what is asked of the class of an exception that is held -/
structure XcC (K : PySem.W.Frag) (C : Addr) : Prop where
  ox : OexC K C
  ic : (PySem.W.clsIn K C).isSome = true
  hd : PySem.W.hasDictIn K C = true
  ga : PySem.W.findIn K (.ref C) "__getattribute__" = some (some (.builtin "BaseException.__getattribute__"))
  gg : PySem.W.findIn K (.ref C) "__getattr__" = some none
  nv : PySem.W.findIn K (.ref C) "value" = some none
  ca : PySem.W.findIn K (.ref C) "__class__" = some (some (.builtin "object.__class__"))
  cn : PySem.W.specialIn K (.builtin "object.__class__") "__get__" = some (some (.builtin "getset_descriptor.__get__"))
  ct : PySem.W.takesIn K (.builtin "object.__class__") = some true
  cm : PySem.W.mroIn K C (.type "object") = some true
def xcB (K : PySem.W.Frag) (C : Addr) : Bool := oexB K C && (He.eqO (PySem.W.findIn K (.ref C) "__setattr__") (some (some (.builtin "object.__setattr__"))) && (decide (PySem.W.subIn K (.ref C) (.type "BaseException") = some true) &&
  (decide (PySem.W.typeIn K (.ref C) = some (.type "type")) && (PySem.W.keepIn K (.ref C) && ((PySem.W.clsIn K C).isSome && (PySem.W.hasDictIn K C && (He.eqO (PySem.W.findIn K (.ref C) "__getattribute__") (some (some (.builtin "BaseException.__getattribute__"))) &&
  (He.eqO (PySem.W.findIn K (.ref C) "__getattr__") (some none) && (He.eqO (PySem.W.findIn K (.ref C) "value") (some none) && (He.eqO (PySem.W.findIn K (.ref C) "__class__") (some (some (.builtin "object.__class__"))) &&
  (He.eqO (PySem.W.specialIn K (.builtin "object.__class__") "__get__") (some (some (.builtin "getset_descriptor.__get__"))) && (decide (PySem.W.takesIn K (.builtin "object.__class__") = some true) && decide (PySem.W.mroIn K C (.type "object") = some true)))))))))))))
theorem xcB_ok {K : PySem.W.Frag} {C : Addr} (h : xcB K C = true) : XcC K C := by
  unfold xcB at h
  simp only [Bool.and_eq_true, decide_eq_true_eq] at h
  obtain ⟨h1, h2, h3, h4, h5, h6, h7, h8, h9, h10, h11, h12, h13, h14⟩ := h
  exact ⟨⟨oexB_ok h1, He.eqO_ok h2, h3, h4, h5⟩, h6, h7, He.eqO_ok h8, He.eqO_ok h9, He.eqO_ok h10, He.eqO_ok h11, He.eqO_ok h12, h13, h14⟩
/-- an exception of the class at C stands at a, its value v -/
def ErrAt (H : Hp) (a C : Addr) (v : V) : Prop := ∃ d, H a = some (exo a C (some d)) ∧ H d = some (exd d [("value", v)])
theorem ErrAt.same {H H' : Hp} {a C : Addr} {v : V} (h : ErrAt H a C v) (s : Same H H') : ErrAt H' a C v := by
  obtain ⟨d, h1, h2⟩ := h
  exact ⟨d, s _ _ h1, s _ _ h2⟩
section
variable {X : Cx} {pins : List (Addr × Obj)} {σ : L2.St} {H : Hp} {s : Shared} {a C : Addr} {v : V}
theorem err_inst (I : Inv X pins σ H s) (h : ErrAt H a C v) : ∃ ox od, PySem.W.InstAt s.heap a ox C (some od) ∧ ∃ u, PySem.W.lookIn "value" od = some (some u) ∧ RelV v u := by
  obtain ⟨d, h1, h2⟩ := h
  obtain ⟨t, ho⟩ := exo_at I.hok h1
  obtain ⟨m, hns, r⟩ := exd_at I.hok h2
  obtain ⟨od, hd, hl⟩ := lookIn_ns hns
  have l : List.lookup ("value" : Str) [(("value" : Str), v)] = some v := by simp [List.lookup]
  obtain ⟨u, hu, ru⟩ := RelO.some_of (v := v) (o := m "value") (by rw [← l]; exact r "value")
  exact ⟨_, od, ⟨ho, rfl, rfl, hd⟩, u, by rw [hl, hu], ru⟩
end
/-- isinstance(e, C) -/
def rIsX (K : PySem.W.Frag) : List V → Hp → VK → Prop := fun xs H Q => ∃ (a C : Addr) (v c : V) (u : Value) (b : Bool), xs = [.ref a, c] ∧ ErrAt H a C v ∧ XcC K C ∧ ClsV c u ∧ PySem.W.kitOne K (.ref C) u = some b ∧ Q (.bl b) H
theorem call_isX {X : Cx} : CallR X (.builtin "isinstance") (rIsX X.K) := by
  intro pins s σ H xs us Q I r h
  obtain ⟨a, C, v, c, u, b, rfl, he, T, k, e, q⟩ := h
  obtain ⟨u1, u2, rfl, r1, r2⟩ := vals2 r
  cases (show u1 = Value.ref a from r1)
  have e2 := k.eq r2
  subst e2
  obtain ⟨ox, od, J, _⟩ := err_inst I he
  exact PySem.W.kia_one (PySem.W.kitx_exc T.ic T.ga T.gg T.ox.exC T.ca T.cn T.ct T.cm) I.kIn J e (fun z => nomatch z) fun tk => ⟨.bl b, H, I.tok tk, rfl, q⟩
/-- e.value -/
def tXv (K : PySem.W.Frag) (te : TE) : TE := fun σ H Q => te σ H fun x H1 => ∃ (a C : Addr) (v : V), x = .ref a ∧ ErrAt H1 a C v ∧ XcC K C ∧ Q v H1
theorem pe_xv {X : Cx} {e : Expr} {te : TE} {pos : Pos} (he : PE X e te) (hb : attributeBase e "value" X.env (eval e X.env) = eval e X.env := by rfl) : PE X (.Attribute e "value" pos) (tXv X.K te) := by
  refine ⟨fun pins s σ H Q I h => attr_of hb (thn (he.run pins s σ H _ I h) fun u s1 hh => ?_)⟩
  obtain ⟨x, H1, I1, rx, a, C, v, rfl, ea, T, q⟩ := hh
  cases (show u = Value.ref a from rx)
  obtain ⟨ox, od, J, z, hz, rz⟩ := err_inst I1 ea
  exact PySem.HandSPX.exc_get I1.kIn J T.ga T.gg T.ox.exC (PySem.W.findObj_own T.hd T.nv rfl hz) (handed_of rz) ⟨v, H1, I1.tok _, rz, q⟩
/-- C(e, ..) as a value, C's __init__ keeping sp -/
def tMkV (C : Addr) (sp : Sp) (dvs : List V) (E : XK) (ta : TA) : TE := fun σ H Q => ta σ H fun vs H1 => vs.length ≤ 1000 ∧ ∀ a, H1 a = none → sp (.ref a :: (vs ++ dvs)) (upd H1 a (exo a C none)) (fun v H2 => v = .non ∧ Q (.ref a) H2) E
theorem pe_mkV {X : Cx} {e : Expr} {es : List Expr} {ta : TA} {p pos : Pos} {CX : CXT} {x : Str} {C fI : Addr} {k : Nat} {fd : FuncData} {ps : List Str} {sp : Sp} {ds : List Value} {dvs : List V} {E : XK} (T : OexC X.K C)
    (iC : PySem.W.findIn X.K (.ref C) "__init__" = some (some (.ref fI))) (tI : PySem.W.typeIn X.K (.ref fI) = some (.type "function")) (F1 : FnOk X.prog X.w X.K X.mg X.base CX k fI fd ps sp) (hr : Room (k + 1) X.A) (hb : Binds X.K fd ps ds)
    (hd : Vals dvs ds) (hx : Passes CX X E) (hg : Gl X x) (hm : X.mg x = some (.ref C)) (ha : PA X (e :: es) ta)
    (hdb : (x == ("__debug__" : Str)) = false := by decide) (he : starEach (e :: es) X.env = (false, eval e X.env) :: starEach es X.env := by rfl) (hpl : (backTo pos (starEach es X.env)).any (·.1) = false := by rfl) :
    PE X (.Call (.Name x p) (e :: es) [] pos) (tMkV C sp dvs E ta) := by
  refine ⟨fun pins s σ H Q I h => wpAny_Call_Name_kw (ld_glob I hg hm (PySem.W.callWith_K (h₀ := X.base) I.ok.mod.kin T.kC (thn (ha.run pos pins s σ H _ I h) fun us s1 hh => ?_) he hpl) hdb)⟩
  obtain ⟨vs, H1, I1, r1, hz, q1⟩ := hh
  refine ⟨I1.kIn, ?_⟩
  obtain ⟨nm, q, N, bs, bm, sn, sub, ab, col, dd, k0, k1, k2, k3, k5, hC, hbm⟩ := T.cls
  obtain ⟨hp, g, dr, tk, os⟩ := s1
  show wpAny _ _ (call (.ref C) us) _ _ _
  have big : hp.objs.size ≤ hp.objs.size + 1 := Nat.le_succ _
  have hq := q1 (hp.objs.size + 1) (I1.hok.fresh big)
  have at_ : ((hp.push (PySem.W.kdv_tup us)).push (PySem.HandSPX.excO C hp.objs.size)).get? (hp.objs.size + 1) = some (PySem.HandSPX.excO C hp.objs.size) := by heap_get
  have I2 : Inv X pins σ (upd H1 (hp.objs.size + 1) (exo (hp.objs.size + 1) C none)) ⟨(hp.push (PySem.W.kdv_tup us)).push (PySem.HandSPX.excO C hp.objs.size), g, dr, tk, os⟩ :=
    I1.laid (t' := tk) (fun b o z => Heap.get?_push_of_some _ (Heap.get?_push_of_some _ z)) big (exo_ok at_)
  have r2 : Vals (V.ref (hp.objs.size + 1) :: (vs ++ dvs)) (Value.ref (hp.objs.size + 1) :: us ++ ds) := Paired.cons rfl (r1.append hd)
  have hl : (Value.ref (hp.objs.size + 1) :: us ++ ds).length = ps.length := r2.length.symm.trans (F1.len _ _ _ _ hq)
  have hus : us.length ≤ sizeLine := by
    have e1 := Paired.length r1
    rw [sizeLine_eq]
    omega
  refine wpAny_call (PySem.HandSPX.call_own F.excBase_ValueError (fun Y => PySem.HandSPX.refsVE_contains Y bm hbm) (I1.kIn _ _ hC) (PySem.W.looks_findIn I1.kIn iC) (fun self => PySem.W.bind_fn I1.kIn self tI) hus ?_)
  refine codeAny_mono (F1.run _ X.stack _ _ ⟨Value.ref (hp.objs.size + 1) :: us, []⟩ _ _ _ E (hr.make C us []) (I2.env0.make C us []) (hb _ (Value.ref (hp.objs.size + 1) :: us) I2.kIn hl) r2 hq) fun res s' hs => ?_
  match res, hs with
  | .error er, hs => exact hx pins σ _ _ er s' I2 hs
  | .ok (.ret u), hs =>
    obtain ⟨v, H3, I3, rv, rfl, q3⟩ := I2.after hs
    exact ⟨rv, ⟨.ref (hp.objs.size + 1), H3, I3, rfl, q3⟩⟩
  | .ok .next, hs => exact hs.elim
  | .ok .brk, hs => exact hs.elim
  | .ok .cont, hs => exact hs.elim
/-- ValueError(e) as a value -/
theorem pe_veV {X : Cx} {x : Str} {e : Expr} {t : TA} {p pos : Pos} (hg : Gl X x) (hm : X.mg x = none) (hv : bootBuiltins x = some (.type "ValueError")) (ha : PA X [e] t) (hn : x ≠ "__name__" := by decide) (hdb : (x == ("__debug__" : Str)) = false := by decide)
    (he : starEach [e] X.env = (false, eval e X.env) :: starEach [] X.env := by rfl) (hpl : (backTo pos (starEach [] X.env)).any (·.1) = false := by rfl) :
    PE X (.Call (.Name x p) [e] [] pos) (fun σ H Q => t σ H fun vs H1 => vs.length ≤ sizeLine ∧ ∀ a, H1 a = none → Q (.ref a) (upd H1 a (ExO (.type "ValueError") a))) := by
  refine ⟨fun pins s σ H Q J h => wpAny_Call_Name_kw (ld_blt J hg hm hv (PyProof.Rows.callWith_type1 (thn (ha.run pos pins s σ H _ J h) fun us s1 hh => ?_) he hpl) hn hdb)⟩
  obtain ⟨vs, H1, I1, r1, q0, q1⟩ := hh
  obtain ⟨hp1, g1, d1, tk1, os1⟩ := s1
  refine wpAny_call_exc exb_ValueError.call (fun h' a mk => ?_) (Nat.le_trans (Nat.le_of_eq r1.length.symm) q0)
  have m2 := PySem.Heap.MadeExc.of mk
  obtain ⟨t0, ht, _, _⟩ := m2.there
  have hn := I1.hok.gone m2.new
  exact ⟨.ref a, _, I1.laidN m2.keeps m2.new hn (exO_ok ht ⟨rfl, rfl⟩ rfl rfl rfl (show 4 < 6 by decide)), rfl, q1 a hn⟩
/-- isinstance(e, C), e such a ValueError -/
def rIsV (K : PySem.W.Frag) : List V → Hp → VK → Prop := fun xs H Q => ∃ (a : Addr) (c : V) (u : Value) (b : Bool), xs = [.ref a, c] ∧ H a = some (ExO (.type "ValueError") a) ∧ ClsV c u ∧ PySem.W.kitOne K (.type "ValueError") u = some b ∧ Q (.bl b) H
theorem call_isV {X : Cx} : CallR X (.builtin "isinstance") (rIsV X.K) := by
  intro pins s σ H xs us Q I r h
  obtain ⟨a, c, u, b, rfl, he, k, e, q⟩ := h
  obtain ⟨u1, u2, rfl, r1, r2⟩ := vals2 r
  cases (show u1 = Value.ref a from r1)
  have e2 := k.eq r2
  subst e2
  obtain ⟨⟨oe, vs, ho, hz, _⟩, _, _⟩ := I.hok a _ he
  exact PySem.W.kia_one (PySem.W.kitx_bexc PySem.F.excAttr_ValueError F.lkClass_ValueError F.soClass_ValueError (by decide +kernel)) I.kIn ⟨oe, ho, hz.1⟩ e (fun z => nomatch z) fun tk => ⟨.bl b, H, I.tok tk, rfl, q⟩
end Lw
namespace Lw
open PySem PySem.Spec PyProof.Rows L2
/-- what the one __init__ does: the field value, and no more -/
def spInit (K : PySem.W.Frag) : Sp := fun vs H Q _ => ∃ (a C : Addr) (v : V), vs = [.ref a, v] ∧ OexC K C ∧ PySem.W.findIn K (.ref C) "value" = some none ∧ H a = some (exo a C none) ∧
  ∀ H' : Hp, ErrAt H' a C v → (∀ b o, H b = some o → b ≠ a → H' b = some o) → Q .non H'
theorem init_reads {K : PySem.W.Frag} {vs : List V} {H : Hp} {Q : VK} {E : XK} (h : spInit K vs H Q E) : tOst K "value" (tVar 0) (tVar 1) { nx := fun _ H' => Q .non H', rt := Q } (start ["self", "value"] vs) H := by
  obtain ⟨a, C, v, rfl, T, hno, ea, k⟩ := h
  refine ⟨_, rfl, _, rfl, a, C, rfl, T, hno, .inl ⟨ea, fun dx n ne => k _ ⟨dx, upd_same, ?_⟩ fun b o e hb => ?_⟩⟩
  · rw [upd_ne ne]
    exact upd_same
  · rw [upd_ne hb, upd_ne (ne_of_none e n)]
    exact e
/-- a new exception of the class at C, its value what the name in slot i holds -/
theorem mk_reads {K : PySem.W.Frag} {C : Addr} {i : Nat} {σ : L2.St} {H : Hp} {Q : VK} {v : V} (T : XcC K C) (hσ : σ[i]? = some (some v)) (h : ∀ a H', H a = none → ErrAt H' a C v → Same H H' → Q (.ref a) H') :
    tMkV C (spInit K) [] E0 (tCons (tVar i) tNil) σ H Q := by
  refine ⟨v, hσ, (by show 1 ≤ 1000; decide), fun a na => ⟨a, C, v, rfl, T.ox, T.nv, upd_same, fun H' e k => ⟨rfl, h a H' na e fun b o eb => ?_⟩⟩⟩
  have hb : b ≠ a := ne_of_none eb na
  exact k b o (by rw [upd_ne hb]; exact eb) hb
/-- several of them, one behind the other -/
def tMks (K : PySem.W.Frag) (i : Nat) : List Str → TA
  | [] => tNil
  | x :: r => tCons (tMkV (He.ga K x) (spInit K) [] E0 (tCons (tVar i) tNil)) (tMks K i r)
theorem mks_reads {K : PySem.W.Frag} {i : Nat} {σ : L2.St} {v : V} (hσ : σ[i]? = some (some v)) : ∀ (xs : List Str) {H : Hp} {Q : List V → Hp → Prop}, (∀ x ∈ xs, XcC K (He.ga K x)) →
    (∀ (as : List Addr) (H' : Hp), Same H H' → Paired (fun a x => ErrAt H' a (He.ga K x) v) as xs → Q (as.map V.ref) H') → tMks K i xs σ H Q
  | [], H, Q, _, h => h [] H (Same.refl H) .nil
  | x :: r, H, Q, hT, h => by
    show tMkV (He.ga K x) (spInit K) [] E0 (tCons (tVar i) tNil) σ H fun y H1 => tMks K i r σ H1 fun ys H2 => Q (y :: ys) H2
    refine mk_reads (hT x List.mem_cons_self) hσ fun a H1 _ e s1 => ?_
    refine mks_reads hσ r (fun y hy => hT y (List.mem_cons_of_mem _ hy)) fun as H2 s2 p => ?_
    exact h (a :: as) H2 (s1.trans s2) (.cons (e.same s2) p)
/-- what isinstance(the value at a, the class u) tells -/
def IsB (K : PySem.W.Frag) (H : Hp) (a : Addr) (u : Value) (b : Bool) : Prop := (∃ (C : Addr) (v : V), ErrAt H a C v ∧ XcC K C ∧ PySem.W.kitOne K (.ref C) u = some b) ∨ (H a = some (ExO (.type "ValueError") a) ∧ PySem.W.kitOne K (.type "ValueError") u = some b)
theorem IsB.same {K : PySem.W.Frag} {H H' : Hp} {a : Addr} {u : Value} {b : Bool} (h : IsB K H a u b) (s : Same H H') : IsB K H' a u b := by
  rcases h with ⟨C, v, e, T, k⟩ | ⟨e, k⟩
  · exact .inl ⟨C, v, e.same s, T, k⟩
  · exact .inr ⟨s _ _ e, k⟩
def rIsB (K : PySem.W.Frag) : List V → Hp → VK → Prop := fun xs H Q => ∃ (a : Addr) (c : V) (u : Value) (b : Bool), xs = [.ref a, c] ∧ ClsV c u ∧ IsB K H a u b ∧ Q (.bl b) H
theorem call_isB {X : Cx} : CallR X (.builtin "isinstance") (rIsB X.K) := by
  intro pins s σ H xs us Q I r h
  obtain ⟨a, c, u, b, rfl, k, hb, q⟩ := h
  rcases hb with ⟨C, v, e, T, kt⟩ | ⟨e, kt⟩
  · exact call_isX pins s σ H _ us Q I r ⟨a, C, v, c, u, b, rfl, e, T, k, kt, q⟩
  · exact call_isV pins s σ H _ us Q I r ⟨a, c, u, b, rfl, e, k, kt, q⟩
/-- isinstance(the name in slot i, X) for several X, one behind the other -/
def tIss (K : PySem.W.Frag) (i : Nat) : List Str → TA
  | [] => tNil
  | x :: r => tCons (tCB (rIsB K) (tCons (tVar i) (tCons (tC (.ref (He.ga K x))) tNil))) (tIss K i r)
theorem iss_reads {K : PySem.W.Frag} {i : Nat} {σ : L2.St} {a : Addr} (hσ : σ[i]? = some (some (.ref a))) : ∀ {bs : List Bool} {xs : List Str} {H : Hp} {Q : List V → Hp → Prop}, Paired (fun b x => IsB K H a (.ref (He.ga K x)) b) bs xs →
    Q (bs.map V.bl) H → tIss K i xs σ H Q
  | _, _, H, Q, .nil, h => h
  | b :: bs, x :: xs, H, Q, .cons e p, h => ⟨_, hσ, a, _, _, b, rfl, .own _, e, iss_reads hσ p h⟩
/-- xs.extend([..]) several times, then return xs -/
def tExts (K : PySem.W.Frag) (tel : List Str → TA) : List (List Str) → TS
  | [] => tRet (tVar 1)
  | g :: r => tSeq (tDrop (tBM K "list" rExtend (tVar 1) (tCons (tLst (tel g)) tNil))) (tExts K tel r)
end Lw
namespace Lw
open PySem PySem.Spec PyProof.Rows L2
theorem exo_lst {e C : Addr} {d : Option Addr} {xs : List V} : exo e C d ≠ .lst xs := fun z => by
  have z' : HO.ext _ = HO.lst xs := z
  cases z'
theorem exd_lst {e : Addr} {fs : List (Str × V)} {xs : List V} : exd e fs ≠ .lst xs := fun z => by
  have z' : HO.ext _ = HO.lst xs := z
  cases z'
theorem ErrAt.but {H H' : Hp} {a C l : Addr} {v : V} {xs : List V} (h : ErrAt H a C v) (hl : H l = some (.lst xs)) (k : ∀ b o, H b = some o → b ≠ l → H' b = some o) : ErrAt H' a C v := by
  obtain ⟨d, h1, h2⟩ := h
  exact ⟨d, k _ _ h1 (ne_of h1 hl exo_lst), k _ _ h2 (ne_of h2 hl exd_lst)⟩
theorem paired_map {α β : Type} {F G : α → β → Prop} (h : ∀ a b, F a b → G a b) : ∀ {l : List α} {m : List β}, Paired F l m → Paired G l m
  | _, _, .nil => .nil
  | _, _, .cons r t => .cons (h _ _ r) (paired_map h t)
theorem paired_app {α β : Type} {F : α → β → Prop} : ∀ {l l' : List α} {m m' : List β}, Paired F l m → Paired F l' m' → Paired F (l ++ l') (m ++ m')
  | _, _, _, _, .nil, h => h
  | _, _, _, _, .cons r t, h => .cons r (paired_app t h)
theorem paired_split {α β : Type} {F : α → β → Prop} : ∀ {m m' : List β} {l : List α}, Paired F l (m ++ m') → ∃ l1 l2, l = l1 ++ l2 ∧ Paired F l1 m ∧ Paired F l2 m'
  | [], _, l, q => ⟨[], l, rfl, .nil, q⟩
  | _ :: m, _, _ :: _, .cons r t => by
    obtain ⟨l1, l2, e, q1, q2⟩ := paired_split (m := m) t
    exact ⟨_ :: l1, l2, by rw [e]; rfl, .cons r q1, q2⟩
theorem lst_first {te : TA} {rest : TS} {D : Ends} {v : V} {H : Hp} (h : te [some v, none] H fun xs H1 => xs.length ≤ sizeLine ∧ ∀ p, H1 p = none → rest D [some v, some (.ref p)] (upd H1 p (.lst xs))) : tSeq (tAsg (tLst te) (gName 1)) rest D [some v, none] H := h
theorem exts_made {K : PySem.W.Frag} {v : V} {l : Addr} {H0 : Hp} {D : Ends} (h0 : H0 l = none) : ∀ (gs : List (List Str)) {H : Hp} {as : List Addr} {done : List Str}, H l = some (.lst (as.map V.ref)) → Same H0 H → Paired (fun a x => ErrAt H a (He.ga K x) v) as done →
    (∀ g ∈ gs, ∀ x ∈ g, XcC K (He.ga K x)) → (∀ g ∈ gs, g.length ≤ 100) → done.length + 100 * gs.length ≤ 10000 →
    (∀ (as' : List Addr) (H' : Hp), H' l = some (.lst (as'.map V.ref)) → Same H0 H' → Paired (fun a x => ErrAt H' a (He.ga K x) v) as' (done ++ gs.flatten) → D.rt (.ref l) H') →
    tExts K (tMks K 0) gs D [some v, some (.ref l)] H
  | [], H, as, done, hl, s0, p, _, _, _, k => ⟨_, rfl, k as H hl s0 (by rw [List.flatten_nil, List.append_nil]; exact p)⟩
  | g :: gs, H, as, done, hl, s0, p, hT, hg, hn, k => by
    refine ⟨_, rfl, Or.inl ⟨rfl, _, Or.inl (Or.inl hl)⟩, ?_⟩
    have big : (100000 : Nat) ≤ sizeLine := by rw [sizeLine_eq]; omega
    have g1 := hg g List.mem_cons_self
    have e1 := paired_len p
    rw [List.length_cons] at hn
    refine mks_reads rfl g (hT g List.mem_cons_self) fun as2 H2 s2 p2 => ?_
    have e2 := paired_len p2
    refine ⟨by rw [List.length_map]; omega, fun q hq => ?_⟩
    have hl2 := s2 _ _ hl
    have nlq : l ≠ q := ne_of_none hl2 hq
    refine ⟨l, q, as.map V.ref, as2.map V.ref, rfl, rfl, by rw [upd_ne nlq]; exact hl2, upd_same, by rw [List.length_map, List.length_map]; omega, ?_⟩
    have kb : ∀ b o, H2 b = some o → b ≠ l → upd (upd H2 q (.lst (as2.map V.ref))) l (.lst (as.map V.ref ++ as2.map V.ref)) b = some o := fun b o e hb => by
      rw [upd_ne hb, upd_ne (ne_of_none e hq)]
      exact e
    refine exts_made h0 gs (as := as ++ as2) (done := done ++ g) (by rw [upd_same, List.map_append]) (fun b o e => kb b o (s2 _ _ (s0 _ _ e)) (ne_of_none e h0)) (paired_app (paired_map (fun a x h => (h.same s2).but hl2 kb) p) (paired_map (fun a x h => h.but hl2 kb) p2))
      (fun g' h' => hT g' (List.mem_cons_of_mem _ h')) (fun g' h' => hg g' (List.mem_cons_of_mem _ h')) (by rw [List.length_append]; omega) fun as' H' a1 a2 a3 => k as' H' a1 a2 ?_
    rw [List.flatten_cons, ← List.append_assoc]
    exact a3
theorem exts_iss {K : PySem.W.Frag} {a l : Addr} {H0 : Hp} {D : Ends} (h0 : H0 l = none) : ∀ (gs : List (List Str)) {H : Hp} {bs cs : List Bool}, H l = some (.lst (bs.map V.bl)) → Same H0 H → Paired (fun b x => IsB K H0 a (.ref (He.ga K x)) b) cs gs.flatten →
    bs.length + cs.length ≤ 10000 → (∀ H' : Hp, H' l = some (.lst ((bs ++ cs).map V.bl)) → Same H0 H' → D.rt (.ref l) H') → tExts K (tIss K 0) gs D [some (.ref a), some (.ref l)] H
  | [], H, bs, cs, hl, s0, p, _, k => by
    cases p
    refine ⟨_, rfl, k H ?_ s0⟩
    rw [List.append_nil]
    exact hl
  | g :: gs, H, bs, cs, hl, s0, p, hn, k => by
    have big : (100000 : Nat) ≤ sizeLine := by rw [sizeLine_eq]; omega
    obtain ⟨c1, c2, rfl, p1, p2⟩ := paired_split (m := g) (m' := gs.flatten) (by rw [← List.flatten_cons]; exact p)
    rw [List.length_append] at hn
    refine ⟨_, rfl, Or.inl ⟨rfl, _, Or.inl (Or.inl hl)⟩, ?_⟩
    refine iss_reads rfl (paired_map (fun b x h => h.same s0) p1) ⟨by rw [List.length_map]; omega, fun q hq => ?_⟩
    have nlq : l ≠ q := ne_of_none hl hq
    refine ⟨l, q, bs.map V.bl, c1.map V.bl, rfl, rfl, by rw [upd_ne nlq]; exact hl, upd_same, by rw [List.length_map, List.length_map]; omega, ?_⟩
    refine exts_iss h0 gs (bs := bs ++ c1) (cs := c2) (by rw [upd_same, List.map_append]) (fun b o e => ?_) p2 (by rw [List.length_append]; omega) fun H' a1 a2 => k H' (by rw [← List.append_assoc]; exact a1) a2
    rw [upd_ne (ne_of_none e h0), upd_ne (ne_of_none (s0 _ _ e) hq)]
    exact s0 _ _ e
end Lw

set_option Elab.async false
set_option linter.all false
set_option maxRecDepth 100000
set_option maxHeartbeats 4000000
/-! A law whose def shows values; data under a growing heap. -/
namespace Lw
open PySem PySem.Spec PyProof.Rows L2
theorem ifF {c : Bool} {A B : Prop} (hc : c = false) (h : B) : if c = true then A else B := by
  subst hc
  exact iteF h
theorem ifT {c : Bool} {A B : Prop} (hc : c = true) (h : A) : if c = true then A else B := by
  subst hc
  exact iteT h
theorem set_reads {te : TE} {i : Nat} {D : Ends} {σ : L2.St} {H : Hp} (h : te σ H fun v H1 => D.nx (σ.set i (some v)) H1) : tAsg te (gName i) D σ H := h
theorem seq_reads {t u : TS} {D : Ends} {σ : L2.St} {H : Hp} (h : t { D with nx := fun σ' H' => u D σ' H' } σ H) : tSeq t u D σ H := h
theorem sqT_same {K : PySem.W.Frag} {H H' : Hp} {a : Addr} {xs : List V} (e : Same H H') (h : SqT K H a xs) : SqT K H' a xs := by
  rcases h with (h | ⟨o, h⟩) | h
  · exact .inl (.inl (e _ _ h))
  · exact .inl (.inr ⟨o, e _ _ h⟩)
  · exact .inr h
mutual
theorem dp_same {K : PySem.W.Frag} {H H' : Hp} (e : Same H H') : ∀ (d : PyData) (v : V), Dp K H v d → Dp K H' v d
  | .none, _, h => by cases h; exact .non
  | .bool _, _, h => by cases h; exact .bl _
  | .int _, _, h => by cases h; exact .int _
  | .str _, _, h => by cases h; exact .str _
  | .list ds, _, h => by
    cases h with
    | lst hs ha => exact .lst (e.seq hs) (dpAll_same e ds _ ha)
  | .tuple ds, _, h => by
    cases h with
    | tup hs ha => exact .tup (sqT_same e hs) (dpAll_same e ds _ ha)
  | .dict _, _, h => by cases h
theorem dpAll_same {K : PySem.W.Frag} {H H' : Hp} (e : Same H H') : ∀ (ds : List PyData) (vs : List V), DpAll K H vs ds → DpAll K H' vs ds
  | [], _, h => by cases h; exact .nil
  | d :: ds, _, h => by
    cases h with
    | cons h1 h2 => exact .cons (dp_same e d _ h1) (dpAll_same e ds _ h2)
end
theorem Dr.same {K : PySem.W.Frag} {H H' : Hp} {v : V} {d : PyData} (h : Dr K H v d) (e : Same H H') : Dr K H' v d := by
  cases h with
  | dp h => exact .dp (dp_same e d v h)
  | dic h f => exact .dic (e _ _ h) f
/-- a list of bools, as data -/
theorem dp_bools {K : PySem.W.Frag} {H : Hp} : ∀ bs : List Bool, DpAll K H (bs.map V.bl) (bs.map PyData.bool)
  | [] => .nil
  | b :: bs => .cons (.bl b) (dp_bools bs)
theorem lay_bools : ∀ bs : List Bool, PyData.canLayAll0 (bs.map PyData.bool) = true
  | [] => rfl
  | b :: bs => by
    rw [List.map_cons, PyData.canLayAll0, lay_bools bs]
    rfl
theorem depth_bools : ∀ bs : List Bool, PyData.depthAll (bs.map PyData.bool) = 0
  | [] => rfl
  | b :: bs => by
    rw [List.map_cons, PyData.depthAll, depth_bools bs]
    rfl
theorem shaped_bools (bs : List Bool) : SeqAt.shaped (.list (bs.map PyData.bool)) = true := by
  show (PyData.canLay0 (.list (bs.map PyData.bool)) && decide (PyData.depth (.list (bs.map PyData.bool)) ≤ 64)) = true
  rw [Bool.and_eq_true]
  refine ⟨by simp only [PyData.canLay0]; exact lay_bools bs, decide_eq_true ?_⟩
  simp only [PyData.depth]
  rw [depth_bools]
  decide
theorem eqv_bools : ∀ bs : List Bool, PyData.eqvAll (bs.map PyData.bool) (bs.map PyData.bool) = true
  | [] => by simp [PyData.eqvAll]
  | b :: bs => by
    rw [List.map_cons, PyData.eqvAll, eqv_bools bs]
    cases b <;> simp [PyData.eqv]
theorem paired_get {α β : Type} {F : α → β → Prop} : ∀ {l : List α} {m : List β} {i : Nat} {a : α}, Paired F l m → l[i]? = some a → ∃ b, m[i]? = some b ∧ F a b
  | _, _, 0, a, .cons r _, h => ⟨_, rfl, by rw [← Option.some.inj h]; exact r⟩
  | _, _, i + 1, a, .cons _ t, h => paired_get (i := i) t h
  | _, _, _, _, .nil, h => by cases h
theorem paired_const {α β : Type} {F : α → β → Prop} {g : β → α} : ∀ {m : List β}, (∀ y ∈ m, F (g y) y) → Paired F (m.map g) m
  | [], _ => .nil
  | y :: m, h => .cons (h y List.mem_cons_self) (paired_const fun z hz => h z (List.mem_cons_of_mem _ hz))
/-- the law's own call, its def's promise holding where nothing is being shown -/
theorem lawG_call {P : Program} {w : World} {K : PySem.W.Frag} {mg mb : Str → Option Value} {CX : CXT} {k : Nat} {fa a : Addr} {fd : FuncData} {x : Str} {sp : Sp} {s₁ : Shared} {vs : List Value} {ns : List Int}
    (KX : K.In s₁.heap) (hns : s₁.heap.Ns mainGlobals mg) (hb : s₁.heap.Ns builtinsNs mb) (hbb : ∀ x : Str, x ≠ "__name__" → mb x = bootBuiltins x) (hlim : s₁.heap.NoLimit) (hg : s₁.gens = #[])
    (ha : s₁.heap.get? a = some { cls := .type "list", data := .seq vs.toArray }) (hi : IntsAre vs ns) (hl : ns.length ≤ sizeLine) (hr : Room k callerA)
    (F : ∀ base : Heap, K.In base → base.Ns mainGlobals mg → FnG P w K mg base CX k fa fd [x] sp) (hbind : ∀ (s : Shared) (u : Value), BindsTo s fd ⟨[u], []⟩ [(x, u)])
    (hsp : ∀ H : Hp, Only H → SqL K H a (ns.map V.int) → sp [.ref a] H (fun v _ => v = .bl true) fun _ _ _ => False) (hCX : ∀ H e s', CX [] H s₁ (fun _ _ _ => False) e s' → False) :
    codeAny (model P w) callerA (.call (.ref fa) ⟨[.ref a], []⟩) (fun r s' => r = .ok (.ret (.bool true)) ∧ OldK s₁.heap s'.heap ∧ s'.os = s₁.os ∧ AllBare s'.gens) s₁ := by
  have go : ∀ H : Hp, Only H → SqL K H a (ns.map V.int) → HOk P w H s₁.heap → (∀ b u, H b = some u → b = a) → (∀ u, H a = some u → K.lookup a = none) →
      codeAny (model P w) callerA (.call (.ref fa) ⟨[.ref a], []⟩) (fun r s' => r = .ok (.ret (.bool true)) ∧ OldK s₁.heap s'.heap ∧ s'.os = s₁.os ∧ AllBare s'.gens) s₁ := by
    intro H only sq hok one noK
    have keepN : ∀ {b : Addr} {o : Obj}, s₁.heap.get? b = some o → H b = none → (hidT s₁.heap H).get? b = some o := fun z n => hidT_get z n
    have notA : ∀ {b : Addr} {o : Obj} {es : Array DictEntry} {ep : Nat}, s₁.heap.get? b = some o → o.data = .dict es ep → H b = none := by
      intro b o es ep z d
      rcases q : H b with _ | u
      · rfl
      · have e := one b u q
        subst e
        rw [ha] at z
        cases z
        cases (show Data.seq vs.toArray _ = Data.dict es ep from d)
    have kns : ∀ {b : Addr} {m : Str → Option Value}, s₁.heap.Ns b m → (hidT s₁.heap H).Ns b m := by
      rintro b m ⟨o, es, ep, z, d, r⟩
      exact ⟨o, es, ep, keepN z (notA z d), d, r⟩
    have kin : K.In (hidT s₁.heap H) := by
      intro b o z
      refine keepN (KX b o z) ?_
      rcases q : H b with _ | u
      · rfl
      · have e := one b u q
        subst e
        rw [noK u q] at z
        cases z
    obtain ⟨mc, l1, l2⟩ := hlim
    have e0 : Env0 P w K mg (hidT s₁.heap H) callerA [] s₁ H :=
      { frames := rfl, mod := { kin := kin, glob := kns hns, blt := ⟨mb, kns hb, hbb⟩, nolimit := ⟨mc, kns l1, l2⟩ }, bs := fun _ _ z => of_hidT z, bsz := Nat.le_of_eq (hidT_size _ _), funs := trivial, frf := fun b z => (by cases (show b ∈ ([] : List Addr) from z)), hok := hok, bare := .of_eq hg }
    refine codeAny_mono ((F _ kin (kns hns)).run callerA [] s₁ H ⟨[.ref a], []⟩ [.ref a] [.ref a] _ _ rfl hr e0 (hbind s₁ (.ref a)) (.cons rfl .nil) (hsp H only sq)) ?_
    intro r s' h
    match r, h with
    | .error e, h => exact (hCX H e s' h).elim
    | .ok .next, h => exact h.elim
    | .ok .brk, h => exact h.elim
    | .ok .cont, h => exact h.elim
    | .ok (.ret u), ⟨v, H', os, bare, un, hok', r', q⟩ =>
      cases (show v = V.bl true from q)
      cases (show u = Value.bool true from r')
      refine ⟨rfl, OldK.of_keep fun b o z => ?_, os, bare⟩
      rcases only b with n | ⟨ob, xs, n⟩
      · exact un.keep b o z n (fun y => by cases (show b ∈ ([] : List Addr) from y)) (by simp)
      · obtain ⟨e1, _⟩ := hok b _ n
        obtain ⟨e2, _⟩ := hok' b _ (un.frzs b ob _ n)
        rw [z] at e1
        cases e1
        exact e2
  have rv : Vals (ns.map V.int) vs := vals_ints hi
  have len := hi.length
  rcases hk : K.lookup a with _ | o
  · -- the script is tracked, locked
    refine go (fun b => if b = a then some (.frz { cls := .type "list", data := .seq vs.toArray } (.lst (ns.map V.int))) else none) ?_ (.inl (.inr ⟨_, if_pos rfl⟩)) ?_ ?_ fun _ _ => hk
    · intro b
      by_cases e : b = a
      · exact .inr ⟨_, _, if_pos e⟩
      · exact .inl (if_neg e)
    · intro b u z
      by_cases e : b = a
      · subst e
        cases (if_pos rfl).symm.trans z
        exact ⟨ha, by rw [List.length_map]; exact hl, vs, _, rv, ha⟩
      · cases (if_neg e).symm.trans z
    · intro b u z
      by_cases e : b = a
      · exact e
      · cases (if_neg e).symm.trans z
  · -- the script is an object of the module
    have e := KX a o hk
    rw [ha] at e
    cases e
    exact go (fun _ => none) (fun _ => .inl rfl) (.inr ⟨_, vs.toArray, _, hk, rfl, rfl, rfl, by rw [List.size_toArray, len]; exact hl, by simpa using rv⟩) (fun b u z => (by cases (show (none : Option HO) = some u from z)))
      (fun b u z => (by cases (show (none : Option HO) = some u from z))) fun u z => (by cases (show (none : Option HO) = some u from z))
theorem walkG {l : PySem.W.OpenLaw} {n k : Nat} {q : Program} {loose : List Str} {XP : (Str → Option Value) → Heap → Prop} {YP : World → Heap → Prop} {d : DefRec} {CX : CXT} {x : Str}
    (hn : l.most = some n) (hn2 : n ≤ sizeLine) (hdf : d.params.defaults = []) (hr : Room k callerA)
    (F : ∀ (w : World) (mg : Str → Option Value) (fa : Addr) (h : Heap), YP w h → h.Ns mainGlobals mg → mg d.name = some (.ref fa) →
      ∃ (K : PySem.W.Frag) (fd : FuncData) (sp : Sp), K.In h ∧ (∀ (s : Shared) (u : Value), BindsTo s fd ⟨[u], []⟩ [(x, u)]) ∧
        (∀ (H : Hp) (a : Addr) (ns : List Int), ns.length ≤ n → Only H → SqL K H a (ns.map V.int) → sp [.ref a] H (fun v _ => v = .bl true) fun _ _ _ => False) ∧
        ∀ base : Heap, K.In base → base.Ns mainGlobals mg → FnG l.prog w K mg base CX k fa fd [x] sp)
    (hCX : ∀ (H : Hp) (s : Shared) (e : Value) (s' : Shared), CX [] H s (fun _ _ _ => False) e s' → False) : PySem.W.WalkO q loose XP YP l.row.toRowW d [] (fun f vs => PySem.call f vs) := by
  refine Att.attach_call hn hdf fun w s₀ s₁ mg mb fa o pm cd doc a vs ns G Y ho hd hcd hmg hobj hints hlen hg => ?_
  obtain ⟨K, fd, sp, kin, bind, want, prom⟩ := F w mg fa _ Y G.T.g hmg
  exact lawG_call kin G.T.g G.T.b G.T.builtins G.T.nolimit hg hobj hints (Nat.le_trans hlen hn2) hr prom bind (fun H o S => want H a ns hlen o S) fun H e s' => hCX H s₁ e s'
/-! ### the head: facts of one's own kind -/
def obsL (chk : PySem.W.Frag → Bool) (fn : List He.DefD) (K : PySem.W.Frag) : He.AlD := (chk K && fn.all fun d => d.ok K, fn.map fun d => He.fnW K d.at_)
def SaysL (chk : PySem.W.Frag → Bool) (fn : List He.DefD) (K : PySem.W.Frag) : Prop := obsL chk fn K = He.valD fn
def obsLG (n : Nat) (chk : PySem.W.Frag → Bool) (fn : List He.DefD) (g : Addr → Option Obj) : He.AlD := obsL chk fn (He.frG g (He.asD g n))
def hookL (n : Nat) (chk : PySem.W.Frag → Bool) (fn : List He.DefD) : PySem.W.Hook where
  α := He.AlD
  obs := fun s => obsLG n chk fn s.heap.get?
  val := fun _ => He.valD fn
  says := fun _ h => ∃ K : PySem.W.Frag, K.In h ∧ SaysL chk fn K
  of := fun _ _ e => ⟨_, He.frG_in, e⟩
  keeps := fun _ _ _ ⟨K, hK, c⟩ k => ⟨K, PySem.W.Frag.In.keeps hK k, c⟩
theorem obsLG_eq {n : Nat} {chk : PySem.W.Frag → Bool} {fn : List He.DefD} {g : Addr → Option Obj} {s : Shared} (h : ∀ a, g a = s.heap.get? a) : obsLG n chk fn g = (hookL n chk fn).obs s := by
  have e : g = s.heap.get? := funext h
  rw [e] <;> rfl
theorem SaysL.chk {chk : PySem.W.Frag → Bool} {fn : List He.DefD} {K : PySem.W.Frag} (c : SaysL chk fn K) : chk K = true :=
  (He.ba (show (chk K && fn.all fun d => d.ok K) = true from congrArg (fun z : He.AlD => z.1) c)).1
theorem SaysL.def_ {chk : PySem.W.Frag → Bool} {fn : List He.DefD} {K : PySem.W.Frag} (c : SaysL chk fn K) (i : Nat) {d : He.DefD} (h : fn[i]? = some d := by rfl) : ∃ fd, FunD K d.name d.qual d.params d.body d.scope (d.dvs K) (d.kws K) (He.fAd K d.at_) fd := by
  have c2 := (He.ba (show (chk K && fn.all fun d => d.ok K) = true from congrArg (fun z : He.AlD => z.1) c)).2
  have e2 : (fn.map fun d => He.fnW K d.at_)[i]? = (fn.map He.DefD.val)[i]? := congrArg (fun l : List He.FnW => l[i]?) (congrArg (fun z : He.AlD => z.2) c)
  rw [List.getElem?_map, List.getElem?_map, h] at e2
  exact He.DefD.funD (Option.some.inj e2) (List.all_eq_true.mp c2 d (List.mem_of_getElem? h))
end Lw

set_option Elab.async false
set_option linter.all false
set_option maxRecDepth 100000
set_option maxHeartbeats 4000000
/-! How long a shown value is. -/
namespace Lw
open PySem PySem.Spec PyProof.Rows L2
theorem join_le (ts : List Str) : (Str.join ", " ts).length ≤ piled ts := by
  cases ts with
  | nil => exact Nat.zero_le _
  | cons t r =>
    have e := join_length_add (t :: r) (by simp)
    omega
theorem textFrom_le : ∀ (ts : List Str) (k : Nat) (acc : Str), (textFrom k acc ts).length ≤ acc.length + piled ts
  | [], k, acc => Nat.le_add_right _ _
  | t :: r, k, acc => by
    have h := textFrom_le r (k + 1) (acc ++ (if k > 0 then ", " else "" : String) ++ t)
    have e : (acc ++ (if k > 0 then ", " else "" : String) ++ t).length ≤ acc.length + 2 + t.length := by
      rw [strLen_append, strLen_append]
      by_cases c : k > 0
      · rw [if_pos c]
        exact Nat.le_refl _
      · rw [if_neg c]
        show acc.length + 0 + t.length ≤ _
        omega
    have p : piled (t :: r) = t.length + 2 + piled r := by simp [piled]
    show (textFrom (k + 1) (acc ++ (if k > 0 then ", " else "" : String) ++ t) r).length ≤ _
    omega
mutual
def cost : PyData → Nat
  | .none => 4
  | .bool _ => 5
  | .int i => (toString i).length
  | .str x => (reprText x).length
  | .list xs => costAll xs + 2
  | .tuple xs => costAll xs + 3
  | .dict kvs => costKv kvs + 2
def costAll : List PyData → Nat
  | [] => 0
  | x :: xs => cost x + 2 + costAll xs
def costKv : List (PyData × PyData) → Nat
  | [] => 0
  | (k, v) :: r => cost k + 2 + cost v + 2 + costKv r
end
mutual
theorem shown_le : ∀ d : PyData, d.shown.length ≤ cost d
  | .none => by decide +kernel
  | .bool b => by cases b <;> decide +kernel
  | .int i => by
    simp only [PyData.shown, cost]
    rw [PySem.ofString_length]
    exact Nat.le_refl _
  | .str x => by
    simp only [PyData.shown, cost]
    exact Nat.le_refl _
  | .list xs => by
    simp only [PyData.shown, cost]
    have h := shownAll_le xs
    have h2 := textFrom_le (PyData.shownAll xs) 0 "["
    unfold listText
    rw [strLen_append]
    have e1 : (("[" : String) : Str).length = 1 := rfl
    have e2 : (("]" : String) : Str).length = 1 := rfl
    omega
  | .tuple xs => by
    simp only [PyData.shown, cost]
    have h := shownAll_le xs
    have h2 := join_le (PyData.shownAll xs)
    unfold tupleText
    rw [strLen_append, strLen_append]
    have e1 : (("(" : String) : Str).length = 1 := rfl
    have e2 : ((if (PyData.shownAll xs).length == 1 then ",)" else ")" : String) : Str).length ≤ 2 := by
      cases ((PyData.shownAll xs).length == 1) <;> decide +kernel
    omega
  | .dict kvs => by
    simp only [PyData.shown, cost]
    have h := shownKv_le kvs
    have h2 := join_le (PyData.shownKv kvs)
    unfold dictText
    rw [strLen_append, strLen_append]
    have e1 : (("{" : String) : Str).length = 1 := rfl
    have e2 : (("}" : String) : Str).length = 1 := rfl
    omega
theorem shownAll_le : ∀ ds : List PyData, piled (PyData.shownAll ds) ≤ costAll ds
  | [] => by simp [PyData.shownAll, piled, costAll]
  | d :: ds => by
    have h1 := shown_le d
    have h2 := shownAll_le ds
    have p : piled (PyData.shownAll (d :: ds)) = d.shown.length + 2 + piled (PyData.shownAll ds) := by simp [PyData.shownAll, piled]
    simp only [costAll]
    omega
theorem shownKv_le : ∀ kvs : List (PyData × PyData), piled (PyData.shownKv kvs) ≤ costKv kvs
  | [] => by simp [PyData.shownKv, piled, costKv]
  | (k, v) :: r => by
    have h1 := shown_le k
    have h2 := shown_le v
    have h3 := shownKv_le r
    have p : piled (PyData.shownKv ((k, v) :: r)) = (k.shown ++ ": " ++ v.shown).length + 2 + piled (PyData.shownKv r) := by simp [PyData.shownKv, piled]
    have e : (k.shown ++ ": " ++ v.shown).length = k.shown.length + 2 + v.shown.length := by
      rw [strLen_append, strLen_append]
      rfl
    simp only [costKv]
    omega
end
theorem shows_of {d : PyData} (n : Nat) (h1 : d.showable = true) (h2 : cost d ≤ n) (h3 : d.depth ≤ 60) (hn : n ≤ 100000 := by decide) : Shows d d.shown :=
  ⟨rfl, h1, by rw [sizeLine_eq]; have := shown_le d; omega, h3⟩
theorem log_small {c : Int} (h : c.natAbs < 10 ^ 400) : c.natAbs.log2 < 1920 := by
  by_cases z : c.natAbs = 0
  · rw [z]; decide
  · exact (Nat.log2_lt z).mpr (Nat.lt_of_lt_of_le h (by decide +kernel))
end Lw

set_option Elab.async false
set_option linter.all false
set_option maxRecDepth 100000
set_option maxHeartbeats 4000000
/-! Operators that an own class defines: | and & (any binary one), in, ==, and != by its own ==. -/
namespace Lw
open PySem PySem.Spec PyProof.Rows L2
theorem ins_inst {X : Cx} {pins : List (Addr × Obj)} {σ : L2.St} {H : Hp} {s : Shared} {a C dx : Addr} {fs : List (Str × V)} (I : Inv X pins σ H s) (h : H a = some (.ins C dx fs)) : ∃ ox od, PySem.W.InstAt s.heap a ox C (some od) := by
  obtain ⟨m, O, _⟩ := ins_get I.hok h
  obtain ⟨od, J, _⟩ := O.look
  exact ⟨_, od, J⟩
section
variable {X : Cx} {CX : CXT} {k : Nat} {C f : Addr} {fd : FuncData} {p1 p2 : Str} {sp : Sp} {E : XK}
def rOwnB (C : Addr) (sp : Sp) (E : XK) : R2 := fun x y H Q => ∃ (a dx b dy : Addr) (fs gs : List (Str × V)), x = .ref a ∧ y = .ref b ∧ H a = some (.ins C dx fs) ∧ H b = some (.ins C dy gs) ∧ sp [.ref a, .ref b] H Q E
theorem op_ownB {op : Operator} (hs : PySem.W.findIn X.K (.ref C) (PySem.dunder op.info.2) = some (some (.ref f))) (hf : PySem.W.isFn X.K (.ref f) = true) (hc : PySem.W.selfFirst X.K C = true)
    (F : FnOk X.prog X.w X.K X.mg X.base CX k f fd [p1, p2] sp) (hr : Room k X.A) (hb : Binds X.K fd [p1, p2] []) (hx : Passes CX X E) : OpR X (binaryOp op) (rOwnB C sp E) := by
  intro pins s σ H x y v u Q I rx ry h
  obtain ⟨a, dx, b, dy, fs, gs, rfl, rfl, ha, hbb, q⟩ := h
  cases (show v = Value.ref a from rx)
  cases (show u = Value.ref b from ry)
  obtain ⟨ox, od, J⟩ := ins_inst I ha
  obtain ⟨oy, oe, J'⟩ := ins_inst I hbb
  obtain ⟨m, fr⟩ := I.fr
  refine PySem.W.binop_K fr I.ok.mod.kin J J'.type hc hs hf (wpAny_mono (run_fn (us := [.ref a, .ref b]) (vs := [.ref a, .ref b]) F hr hb .nil hx I (.cons rfl (.cons rfl .nil)) q) (fun w s' z => ?_) fun _ _ z => z)
  obtain ⟨z', H', I', rz, qz⟩ := z
  exact SlX.cmpback rz ⟨z', H', I', rz, qz⟩
/-- x in y, y such an instance -/
def rOwnIn (C : Addr) (sp : Sp) (E : XK) : R2 := fun x y H Q => ∃ (b dy : Addr) (gs : List (Str × V)), y = .ref b ∧ H b = some (.ins C dy gs) ∧ sp [.ref b, x] H (fun r H' => ∃ c, r = .bl c ∧ Q (.bl c) H') E
theorem op_ownIn (hs : PySem.W.findIn X.K (.ref C) "__contains__" = some (some (.ref f))) (hf : PySem.W.isFn X.K (.ref f) = true)
    (F : FnOk X.prog X.w X.K X.mg X.base CX k f fd [p1, p2] sp) (hr : Room k X.A) (hb : Binds X.K fd [p1, p2] []) (hx : Passes CX X E) : OpR X (compareOp .In) (rOwnIn C sp E) := by
  intro pins s σ H x y v u Q I rx ry h
  obtain ⟨b, dy, gs, rfl, hbb, q⟩ := h
  cases (show u = Value.ref b from ry)
  obtain ⟨oy, oe, J⟩ := ins_inst I hbb
  obtain ⟨m, fr⟩ := I.fr
  refine PySem.W.in_K fr I.ok.mod.kin J hs hf (wpAny_mono (run_fn (us := [.ref b, v]) (vs := [.ref b, x]) F hr hb .nil hx I (.cons rfl (.cons rx .nil)) q) (fun w s' z => ?_) fun _ _ z => z)
  obtain ⟨z', H', I', rz, c, rfl, qz⟩ := z
  cases (show w = Value.bool c from rz)
  exact wpAny_truthy_bool ⟨.bl c, H', I', rfl, qz⟩
/-- x == y, x such an instance, y of a class that is not below it -/
def rOwnEq (K : PySem.W.Frag) (C : Addr) (sp : Sp) (E : XK) : R2 := fun x y H Q => ∃ (a dx : Addr) (fs : List (Str × V)) (t : Value), x = .ref a ∧ H a = some (.ins C dx fs) ∧ TyX K H y t ∧ PySem.W.notFirst K C t = true ∧ sp [.ref a, y] H Q E
theorem op_ownEq (hs : PySem.W.findIn X.K (.ref C) "__eq__" = some (some (.ref f))) (hf : PySem.W.isFn X.K (.ref f) = true)
    (F : FnOk X.prog X.w X.K X.mg X.base CX k f fd [p1, p2] sp) (hr : Room k X.A) (hb : Binds X.K fd [p1, p2] []) (hx : Passes CX X E) : OpR X (compareOp .Eq) (rOwnEq X.K C sp E) := by
  intro pins s σ H x y v u Q I rx ry h
  obtain ⟨a, dx, fs, t, rfl, ha, ty, hn, q⟩ := h
  cases (show v = Value.ref a from rx)
  obtain ⟨ox, od, J⟩ := ins_inst I ha
  obtain ⟨P, Z, p, _⟩ := kit_of I ry ty
  obtain ⟨m, fr⟩ := I.fr
  have hu : X.A.units < cLine := by have := hr.un; omega
  show wpAny _ _ (richCompare .Eq (.ref a) u) _ _ _
  refine PySem.W.cmp_K (op := .Eq) hu fr I.ok.mod.kin J (Z.ty _ _ I.kIn p) hn hs hf (wpAny_mono (run_fn (us := [.ref a, u]) (vs := [.ref a, y]) F hr hb .nil hx I (.cons rfl (.cons ry .nil)) q) (fun w s' z => ?_) fun _ _ z => z)
  obtain ⟨z', H', I', rz, qz⟩ := z
  exact SlX.cmpback rz ⟨z', H', I', rz, qz⟩
end
end Lw
namespace Lw
open PySem PySem.Spec PyProof.Rows L2
section
variable {prog : Program} {w : World} {A : Around} {E : Value → Shared → Prop} {s : Shared} {K : PySem.W.Frag} {x C f : Addr} {ox : Obj} {od : Option Obj} {b tb : Value}
theorem bound_slot {M : Model} {id : String} {name : Str} {args : List Value} {Q : Option Value → Shared → Prop} (X : K.In s.heap) (I : PySem.W.InstAt s.heap x ox C od) (hs : PySem.W.findIn K (.ref C) name = some (some (.builtin id)))
    (S : ∀ self, bindSpecial (.builtin id) self = pure (.builtin id, [self])) (h : wpAny M A (call (.builtin id) (.ref x :: args)) (fun v => Q (some v)) E s) : wpAny M A (callSpecialIfBound? (.ref x) name args) Q E s := by
  have fin : wpAny M A (call (.builtin id) ([.ref x] ++ args) >>= fun v => pure (some v)) Q E s := wpAny_bind (wpAny_mono h (fun _ _ z => wpAny_pure z) fun _ _ z => z)
  simp only [callSpecialIfBound?, bindSpecialIfBound?]
  refine wpAny_holding (wpAny_bind (wpAny_bind (wpAny_bind (I.type.here ((PySem.W.looks_findIn X hs).here ?_)))))
  simp only [S]
  refine wpAny_bind (wpAny_askSetting (wpAny_ite ?_))
  split
  · exact wpAny_bind (wpAny_pure (wpAny_pure fin))
  · exact wpAny_tryCatch (wpAny_bind (wpAny_pure (wpAny_pure fin)))
/-- x.__ne__(b) as object has it, by the class's own __eq__ -/
theorem call_objNe {Q : Value → Shared → Prop} (hu : A.units + 1 < cLine) (X : K.In s.heap) (I : PySem.W.InstAt s.heap x ox C od) (hm : PySem.W.mroIn K C (.type "object") = some true) (hs : PySem.W.findIn K (.ref C) "__eq__" = some (some (.ref f)))
    (hf : PySem.W.isFn K (.ref f) = true) (h : wpAny (model prog w) A.in1 (call (.ref f) [.ref x, b]) (fun v s' => ∃ c, v = .bool c ∧ Q (.bool (!c)) s') E s) : wpAny (model prog w) A (call (.builtin "object.__ne__") [.ref x, b]) Q E s := by
  have sub : PySem.W.Looks (model prog w) s.heap (isInstance (.ref x) (.type "object")) true := I.type.andThen (PySem.W.looks_mroIn X hm)
  refine wpAny_call (codeAny_call_builtin PySem.F.cmp_object.ne.plain PySem.F.cmpEntry_ne (PySem.W.check_slot PySem.F.cmpKind_ne PySem.F.cmpSplit_ne sub (PySem.F.cmpArgs_ne _ _) ?_))
  unfold Builtin.«object.__ne__»
  refine wpAny_bind (wpAny_of_eq (a := ((Value.ref x : Value), [b])) (by first | rfl | (simp only [slotArgs]; rfl)) ?_)
  refine wpAny_bind (wpAny_cRoomFor hu ?_)
  refine wpAny_bind (PySem.W.ifBound_K X I hs hf (wpAny_mono h (fun v s' hv => ?_) fun _ _ z => z))
  obtain ⟨c, rfl, q⟩ := hv
  exact wpAny_bind (wpAny_truthy_bool (wpAny_pure q))
theorem ne_K {Q : Value → Shared → Prop} (hu : A.units + 1 < cLine) (X : K.In s.heap) (I : PySem.W.InstAt s.heap x ox C od) (hb : PySem.W.Looks (model prog w) s.heap (typeOf b) tb) (hn : PySem.W.notFirst K C tb = true) (hm : PySem.W.mroIn K C (.type "object") = some true)
    (hne : PySem.W.findIn K (.ref C) "__ne__" = some (some (.builtin "object.__ne__"))) (hs : PySem.W.findIn K (.ref C) "__eq__" = some (some (.ref f))) (hf : PySem.W.isFn K (.ref f) = true)
    (h : wpAny (model prog w) A.in1 (call (.ref f) [.ref x, b]) (fun v s' => ∃ c, v = .bool c ∧ Q (.bool (!c)) s') E s) : wpAny (model prog w) A (richCompare .NotEq (.ref x) b) Q E s := by
  have z1 : wpAny (model prog w) A (callSpecialIfBound? (.ref x) "__ne__" [b]) (fun r s' => ∃ c, r = some (.bool c) ∧ Q (.bool c) s') E s :=
    bound_slot (Q := fun r s' => ∃ c, r = some (.bool c) ∧ Q (.bool c) s') X I hne PySem.F.cmp_object.ne.bind
      (wpAny_mono (call_objNe (Q := fun v s' => ∃ c, v = .bool c ∧ Q (.bool c) s') hu X I hm hs hf (wpAny_mono h (fun v s' ⟨c, e, q⟩ => ⟨c, e, !c, rfl, q⟩) fun _ _ z => z)) (fun v s' ⟨c, e, q⟩ => ⟨c, by rw [e], q⟩) fun _ _ z => z)
  have one : wpAny (model prog w) A (tryCompare (.ref x) "__ne__" b) (fun r s' => ∃ c, r = some (.bool c) ∧ Q (.bool c) s') E s := by
    unfold tryCompare
    refine wpAny_bind (wpAny_mono z1 (fun r s' hv => ?_) fun _ _ z => z)
    obtain ⟨c, rfl, q⟩ := hv
    exact wpAny_pure ⟨c, rfl, q⟩
  unfold richCompare
  simp only [PySem.oneThing_ref]
  refine wpAny_holding (wpAny_bind (wpAny_cRoomFor (by omega) (wpAny_bind (I.type.here (wpAny_bind (hb.here ?_))))))
  have fin : ∀ (k : Option Value → Sem Value), (∀ c s', Q (.bool c) s' → wpAny (model prog w) A (k (some (.bool c))) Q E s') → wpAny (model prog w) A (tryCompare (.ref x) "__ne__" b >>= k) Q E s := fun k hk => by
    refine wpAny_bind (wpAny_mono one (fun r s' hv => ?_) fun _ _ z => z)
    obtain ⟨c, rfl, q⟩ := hv
    exact hk c s' q
  split
  · rename_i q
    have e : PySem.W.subIn K tb (.ref C) = some false := by
      rcases Bool.or_eq_true_iff.mp hn with e | e
      · rw [beq_iff_eq.mp e] at q
        simp at q
      · exact beq_iff_eq.mp e
    refine wpAny_bind ((PySem.W.looks_subIn X e).here ?_)
    simp only [Bool.false_eq_true, if_false]
    exact fin _ fun c s' q => wpAny_pure q
  · refine wpAny_bind (wpAny_pure ?_)
    simp only [Bool.false_eq_true, if_false]
    exact fin _ fun c s' q => wpAny_pure q
end
section
variable {X : Cx} {CX : CXT} {k : Nat} {C f : Addr} {fd : FuncData} {p1 p2 : Str} {sp : Sp} {E : XK}
/-- x != y, by the class's own == -/
def rOwnNe (K : PySem.W.Frag) (C : Addr) (sp : Sp) (E : XK) : R2 := fun x y H Q => ∃ (a dx : Addr) (fs : List (Str × V)) (t : Value), x = .ref a ∧ H a = some (.ins C dx fs) ∧ TyX K H y t ∧ PySem.W.notFirst K C t = true ∧ sp [.ref a, y] H (fun r H' => ∃ c, r = .bl c ∧ Q (.bl (!c)) H') E
theorem op_ownNe (hm : PySem.W.mroIn X.K C (.type "object") = some true) (hne : PySem.W.findIn X.K (.ref C) "__ne__" = some (some (.builtin "object.__ne__"))) (hs : PySem.W.findIn X.K (.ref C) "__eq__" = some (some (.ref f))) (hf : PySem.W.isFn X.K (.ref f) = true)
    (F : FnOk X.prog X.w X.K X.mg X.base CX k f fd [p1, p2] sp) (hr : Room (k + 1) X.A) (hb : Binds X.K fd [p1, p2] []) (hx : Passes CX X E) : OpR X (compareOp .NotEq) (rOwnNe X.K C sp E) := by
  intro pins s σ H x y v u Q I rx ry h
  obtain ⟨a, dx, fs, t, rfl, ha, ty, hn, q⟩ := h
  cases (show v = Value.ref a from rx)
  obtain ⟨ox, od, J⟩ := ins_inst I ha
  obtain ⟨P, Z, p, _⟩ := kit_of I ry ty
  have hu : X.A.units + 1 < cLine := by have := hr.un; omega
  show wpAny _ _ (richCompare .NotEq (.ref a) u) _ _ _
  refine ne_K hu I.kIn J (Z.ty _ _ I.kIn p) hn hm hne hs hf ?_
  have hl : ([Value.ref a, u] ++ ([] : List Value)).length = [p1, p2].length := rfl
  refine wpAny_call (codeAny_mono (F.run X.A.in1 X.stack s H ⟨[.ref a, u], []⟩ [.ref a, u] [.ref a, y] _ E hr.in1 I.env0.in1 (hb s [.ref a, u] I.kIn hl) (.cons rfl (.cons ry .nil)) q) fun res s' hs' => ?_)
  match res, hs' with
  | .error er, hs' => exact hx pins σ H s er s' I hs'
  | .ok (.ret z), hs' =>
    obtain ⟨v2, H', I', rz, c, rfl, qz⟩ := I.after hs'
    cases (show z = Value.bool c from rz)
    exact ⟨c, rfl, .bl (!c), H', I', rfl, qz⟩
  | .ok .next, hs' => exact hs'.elim
  | .ok .brk, hs' => exact hs'.elim
  | .ok .cont, hs' => exact hs'.elim
end
end Lw

set_option Elab.async false
set_option linter.all false
set_option maxRecDepth 100000
set_option maxHeartbeats 4000000
/-! enumerate over a tuple. -/
namespace Lw
open PySem PySem.Spec PyProof.Rows L2
theorem meets_enum1 {v : Value} {o : Obj} {G : Heap → Prop} (B : Begins v o G) :
    Meets (Builtin.«enumerate.__new__» ⟨[.type "enumerate", v], []⟩) (fun _ R s => G s.heap ∧
      R (.ok (.ret (.ref (s.heap.push o).objs.size))) { s with heap := (s.heap.push o).push { cls := .type "enumerate", data := .fields #[.none, .bool false, .ref s.heap.objs.size, rawInt 0, .none, .none] } }) :=
  .of_wp fun prog w A R s hs => by
    obtain ⟨hh, gs, dr, t, os⟩ := s
    obtain ⟨g1, r1⟩ := hs
    have sb := sub_enumerate
    have it : ∀ {A' : Around} {E : Value → Shared → Prop} {Q : Value → Shared → Prop}, Q (.ref hh.objs.size) ⟨hh.push o, gs, dr, t, os⟩ → wpAny (model prog w) A' (pyIter v) Q E ⟨hh, gs, dr, t, os⟩ := fun q => B.iter prog w _ _ ⟨hh, gs, dr, t, os⟩ _ g1 q
    wp_walk using it
    refine wpAny_stack_any fun st => wpAny_pure ?_
    split
    · rename_i tp _ _ _ _ _
      by_cases z : (tp == Value.type "enumerate") = true
      · rw [z]
        wp_walk using it
        exact ⟨_, rfl, r1⟩
      · rw [Bool.eq_false_iff.mpr z]
        wp_walk using it
        exact ⟨_, rfl, r1⟩
    · wp_walk using it
      exact ⟨_, rfl, r1⟩
theorem call_enum1 {prog : Program} {w : World} {A : Around} {E : Value → Shared → Prop} {s : Shared} {v : Value} {o : Obj} {G : Heap → Prop} {Q : Value → Shared → Prop} (B : Begins v o G) (h1 : G s.heap)
    (h : ∀ h', IsEnum h' (s.heap.objs.size + 1) s.heap.objs.size 0 .none → h'.get? s.heap.objs.size = some o → (∀ b u, s.heap.get? b = some u → h'.get? b = some u) → Q (.ref (s.heap.objs.size + 1)) { s with heap := h' }) :
    wpAny (model prog w) A (call (.type "enumerate") [v]) Q E s := by
  refine callType_new F.called_enumerate (by decide) (F.typeCall_enumerate_1 _) (F.newCall_enumerate_1 _) (fun obj => F.args_object_init_2 obj _) F.entry_enumerate_new (meets_enum1 B) ⟨h1, ?_⟩
  have sz : (s.heap.push o).objs.size = s.heap.objs.size + 1 := Heap.size_push ..
  have at_ : IsEnum ((s.heap.push o).push { cls := .type "enumerate", data := .fields #[.none, .bool false, .ref s.heap.objs.size, rawInt 0, .none, .none] }) (s.heap.objs.size + 1) s.heap.objs.size 0 .none := by
    rw [← sz]
    exact Heap.get?_push_size (s.heap.push o) rfl
  rw [sz]
  exact ⟨⟨_, at_, rfl⟩, h _ at_ (Heap.get?_push_of_some _ (Heap.get?_push_size _ B.free)) fun b u z => Heap.get?_push_of_some _ (Heap.get?_push_of_some _ z)⟩
/-- the tuple at a, each item in a new pair -/
def IteT (K : PySem.W.Frag) (a : Addr) : It :=
  ⟨fun i H => ∃ (xs : List V) (x : V), SqT K H a xs ∧ xs[i]? = some x, fun i H v H' => ∃ T x, v = .ref T ∧ H T = none ∧ H' = upd H T (.tup [.int (i : Nat), x]) ∧ ∀ xs, SqT K H a xs → xs[i]? = some x, fun i H => ∃ xs : List V, SqT K H a xs ∧ xs.length = i⟩
theorem turn_enumT {P : Program} {w : World} {K : PySem.W.Frag} {elts : List Expr} {kk : Nat} {tpos : Pos} (a e it : Addr) :
    Turn P w K (.Tuple elts kk tpos) (IteT K a) [e, it] e (fun i h => (∃ old, IsEnum h e it ((i : Nat) : Int) old) ∧ h.IsTupleIter it a i ∧ e ≠ it ∧ a ≠ it ∧ e ≠ a) where
  mem := List.mem_cons_self
  obj := fun i h st b hb => by
    obtain ⟨⟨old, he⟩, ⟨o, ho, hc, hd⟩, _⟩ := st
    rcases List.mem_cons.mp hb with z | z
    · rw [z]; exact ⟨_, he, fun v q => nomatch q⟩
    · rw [List.mem_singleton.mp z]; exact ⟨o, ho, fun v q => by rw [hd] at q; cases q⟩
  keep := fun i h h' st k => by
    obtain ⟨⟨old, he⟩, hi, n1, n2, n3⟩ := st
    exact ⟨⟨old, k e (by simp) _ he⟩, hi.at fun o q => k it (by simp) o q, n1, n2, n3⟩
  item := by
    intro X hP hw hK hc i pins s σ H E I hf st hg
    subst hP hw hK
    obtain ⟨⟨old, he⟩, hit, n1, n2, n3⟩ := st
    obtain ⟨xs, x, hq, hx⟩ := hg
    obtain ⟨its, rv, p, _⟩ := I.tuple hq
    obtain ⟨u, hu, ru⟩ := rv.get hx
    have hel : e < s.heap.objs.size := Heap.lt_size he
    have hil : it < s.heap.objs.size := by obtain ⟨_, q, _⟩ := hit; exact Heap.lt_size q
    have hlt : i < its.toArray.size := by
      have := (List.getElem?_eq_some_iff.mp hu).1
      simpa using this
    refine wpAny_pyNext_enum_itemC (Draws.tuple (A := X.A.in1) (I.ok.hd hc) it a n2 its.toArray) he ⟨hit, p⟩ hlt n1 (by simp [n1, n3]) fun y h' tk hy ho st' hT hsz hk => ?_
    have ey : y = u := by
      have hy' : its[i]? = some y := by simpa using hy
      rw [hu] at hy'
      exact (Option.some.inj hy').symm
    subst ey
    refine ⟨_, rfl, wpAny_letOwnedTupleGo_enum (s := { s with heap := h', toks := tk + 1 }) ho fun h'' he' sb => ?_⟩
    have gT : h''.get? s.heap.objs.size = some { cls := .type "tuple", data := .seq #[.int i tk, y] } := (sb.2 _ (Nat.ne_of_gt hel)).trans hT
    have new : ObjOk X.prog X.w (upd H s.heap.objs.size (.tup [.int (i : Nat), x])) h'' s.heap.objs.size (.tup [.int (i : Nat), x]) :=
      ⟨by show 2 ≤ sizeLine; decide, [.int i tk, y], .cons ⟨_, rfl⟩ (.cons ru .nil), ⟨_, gT, rfl, _, rfl⟩⟩
    have old2 : ∀ b ob, b ∉ [e, it] → s.heap.get? b = some ob → h''.get? b = some ob := fun b ob hb q => (sb.2 b (fun z => hb (by simp [z]))).trans (hk b ob (fun z => hb (by simp [z])) (fun z => hb (by simp [z])) q)
    have I1 : Inv X pins σ (upd H s.heap.objs.size (.tup [.int (i : Nat), x])) { s with heap := h'', toks := tk + 1 } := I.turnedNew (ch := [e, it]) old2 hf (Nat.le_refl _) new
    refine ⟨.ref s.heap.objs.size, _, I1, rfl, ⟨_, x, rfl, I.hok.fresh (Nat.le_refl _), rfl, fun ys hy => by rw [I.tuple_inj hy hq]; exact hx⟩, ⟨⟨y, ?_⟩, st'.1.at fun o q => (sb.2 it (Ne.symm n1)).trans q, n1, n2, n3⟩, fun b hb => ?_⟩
    · rw [show ((i + 1 : Nat) : Int) = (i : Int) + 1 by omega]
      exact he'
    · have lb : b < s.heap.objs.size := by
        rcases List.mem_cons.mp hb with z | z
        · rw [z]; exact hel
        · rw [List.mem_singleton.mp z]; exact hil
      rw [upd_ne (Nat.ne_of_lt lb)]
      exact (hf b hb).1
  done := by
    intro X hP hw hK hc i pins s σ H E I hf st hg
    subst hP hw hK
    obtain ⟨⟨old, he⟩, hit, n1, n2, n3⟩ := st
    obtain ⟨xs, hq, hx⟩ := hg
    obtain ⟨its, rv, p, _⟩ := I.tuple hq
    obtain ⟨f0, f1, f2, f3, f4, f5⟩ := hf it (by simp)
    have hl := rv.length
    have hn : its.toArray.size = i := by simp; omega
    have D := Draws.tuple (prog := X.prog) (w := X.w) (A := X.A.in1) (I.ok.hd hc) it a n2 its.toArray
    rw [hn] at D
    exact wpAny_pyNext_enum_endD D he ⟨hit, p⟩ fun h' eb => ⟨rfl, I.turned (t' := s.toks) (fun b o hb q => eb b o hb q) f0 f1 f3 f4 f5⟩
  self := fun A i s Q E st h => by
    obtain ⟨⟨_, he⟩, _⟩ := st
    exact wpAny_pyIter_enum he h
def iEnumT (K : PySem.W.Frag) (ta : TA) : TI := fun σ H R => ta σ H fun vs H1 => ∃ a xs, vs = [.ref a] ∧ SqT K H1 a xs ∧ R (IteT K a) H1
theorem pi_enumT {X : Cx} {e : Expr} {ta : TA} {p pos tpos : Pos} {elts : List Expr} {kk : Nat} (hg : Gl X "enumerate") (hm : X.mg "enumerate" = none) (ha : PA X [e] ta) (hs : starEach [e] X.env = [(false, eval e X.env)] := by rfl) :
    PI X (.Tuple elts kk tpos) (.Call (.Name "enumerate" p) [e] [] pos) (iEnumT X.K ta) := by
  refine ⟨fun pins s σ H R I h => Call_ (ld_blt I hg hm boot_enumerate (PyProof.Rows.callWith_type1 (thn (ha.run pos pins s σ H _ I h) fun us s1 hh => ?_) hs rfl))⟩
  obtain ⟨vs, H1, I1, r1, a, xs, rfl, hq, q⟩ := hh
  obtain ⟨u, rfl, ru⟩ := r1.one
  cases (show u = Value.ref a from ru)
  obtain ⟨its, rv, pt, hz⟩ := I1.tuple hq
  have hal : a < s1.heap.objs.size := by obtain ⟨o, ho, _⟩ := pt; exact Heap.lt_size ho
  refine call_enum1 (begins_tuple a its.toArray) pt fun h' he hi hk => wpAny_pyIter_enum he ?_
  have I2 : Inv X pins σ H1 { s1 with heap := h' } := I1.kept (t' := s1.toks) hk
  refine ⟨s1.heap.objs.size + 1, [s1.heap.objs.size + 1, s1.heap.objs.size], _, _, H1, rfl, I2, turn_enumT a (s1.heap.objs.size + 1) s1.heap.objs.size, ⟨⟨.none, he⟩, ⟨_, hi, rfl, rfl⟩, Nat.succ_ne_self _, Nat.ne_of_lt hal, Nat.ne_of_gt (Nat.lt_succ_of_lt hal)⟩, fun b hb => ?_, q⟩
  have big : s1.heap.objs.size ≤ b := by
    rcases List.mem_cons.mp hb with z | z
    · rw [z]; exact Nat.le_succ _
    · exact Nat.le_of_eq (List.mem_singleton.mp z).symm
  exact I1.fpOk big (I1.hok.fresh big)
theorem walk_enumT {K : PySem.W.Frag} {a : Addr} {xs : List V} : Walk (IteT K a) xs.length (fun H => SqT K H a xs) (YPair (fun i => some (.int (i : Nat))) (fun i => xs[i]?)) := by
  refine ⟨fun i _ hi q => ⟨xs, xs[i], q, by simp [hi]⟩, fun _ q => ⟨xs, q, rfl⟩, fun i H v H' _ q y => ?_⟩
  obtain ⟨T, x, h1, h2, h3, h4⟩ := y
  exact ⟨T, .int (i : Nat), x, h1, h2, h3, rfl, h4 xs q⟩
end Lw

set_option Elab.async false
set_option linter.all false
set_option maxRecDepth 100000
set_option maxHeartbeats 4000000
/-! list(zip(t, u)) of two tuples: the pairs stay out in the list. -/
namespace Lw
open PySem PySem.Spec PyProof.Rows L2 RZ
section
variable {prog : Program} {w : World} {A : Around} {E : Value → Shared → Prop} {s : Shared} {z TI TO T i1 i2 l1 l2 : Addr} {f : Bool} {oT : Obj} {k1 k2 : Nat} {xs ys : Array Value}
/-- a pair is out: the next one is a new one -/
theorem heldT_item {x y : Value} {Q : Value → Shared → Prop} (D : ZipApart z TI TO i1 i2 l1 l2) (hz : IsZipHeld s.heap z TI TO T f) (hT : s.heap.get? T = some oT) (hp : IsPair s.heap TI (.ref i1) (.ref i2))
    (a1 : s.heap.IsTupleIter i1 l1 k1) (a2 : s.heap.IsTupleIter i2 l2 k2) (b1 : s.heap.IsTuple l1 xs) (b2 : s.heap.IsTuple l2 ys) (hx : xs[k1]? = some x) (hy : ys[k2]? = some y)
    (hQ : ∀ h', IsZipHeld h' z TI TO T true → h'.IsTupleIter i1 l1 (k1 + 1) → h'.IsTupleIter i2 l2 (k2 + 1) → IsPair h' s.heap.objs.size x y → h'.objs.size = s.heap.objs.size + 1 →
      (∀ c o, c ≠ z → c ≠ i1 → c ≠ i2 → s.heap.get? c = some o → h'.get? c = some o) → Q (.ref s.heap.objs.size) { s with heap := h' }) :
    wpAny (model prog w) A (Builtin.«zip.__next__» ⟨[.ref z], []⟩) (fun fin s' => ∃ v, fin = .done (.ret v) ∧ Q v s') E s := by
  show wpAny _ A (field (.ref z) 2 >>= _) _ E s
  refine wpAny_bind (wpAny_field (x := .bool false) hz rfl rfl ?_)
  show wpAny _ A (field (.ref z) 3 >>= _) _ E s
  refine wpAny_bind (wpAny_field (x := .ref TI) hz rfl rfl (wpAny_bind (wpAny_seqItems hp rfl ?_)))
  show wpAny _ A (Builtin.SmallTypes.ownedTupleIsFree (.ref z) >>= _) _ E s
  refine wpAny_bind (wpAny_tupleHeld_zip hz hT fun g1 z1 e1 => ?_)
  rw [if_neg Bool.false_ne_true]
  refine wpAny_bind ?_
  rw [← Array.forIn_toList]
  simp only [List.forIn_nil, List.forIn_cons]
  refine wpAny_bind (wpAny_bind (wpAny_holding ?_))
  show wpAny _ A (Builtin.SmallTypes.nextOf (.ref i1) >>= _) _ E _
  refine wpAny_bind (nextOf_tuple_item (s := { s with heap := g1 }) (a1.extBut e1.extBut D.i1z) (b1.extBut e1.extBut D.l1z) hx fun g2 c1 e2 => wpAny_pure (wpAny_pure ?_))
  refine wpAny_bind (wpAny_bind (wpAny_holding ?_))
  show wpAny _ A (Builtin.SmallTypes.nextOf (.ref i2) >>= _) _ E _
  refine wpAny_bind (nextOf_tuple_item (s := { s with heap := g2 }) ((a2.extBut e1.extBut D.i2z).extBut e2.extBut D.i12.symm) ((b2.extBut e1.extBut D.l2z).extBut e2.extBut D.l2i1) hy fun g3 c2 e3 => wpAny_pure (wpAny_pure (wpAny_pure ?_)))
  show wpAny _ A (newTuple [x, y] >>= _) _ E _
  refine wpAny_bind (wpAny_newTuple ?_)
  have n3 : g3.objs.size = s.heap.objs.size := (e3.1.trans e2.1).trans e1.1
  have z3 : IsZipHeld g3 z TI TO T true := e3.extBut _ _ D.i2z.symm (e2.extBut _ _ D.i1z.symm z1)
  have k3 : ∀ c o, c ≠ z → c ≠ i1 → c ≠ i2 → s.heap.get? c = some o → g3.get? c = some o := fun c o n1 n2 n4 q => e3.extBut _ _ n4 (e2.extBut _ _ n2 (e1.extBut _ _ n1 q))
  have c3 : g3.IsTupleIter i1 l1 (k1 + 1) := c1.extBut e3.extBut D.i12
  refine wpAny_pure ⟨_, rfl, ?_⟩
  show Q (.ref g3.objs.size) _
  have pn : IsPair (g3.push { cls := .type "tuple", data := .seq #[x, y] }) g3.objs.size x y := Heap.get?_push_size g3 rfl
  have pz : (g3.push { cls := .type "tuple", data := .seq #[x, y] }).objs.size = g3.objs.size + 1 := Heap.size_push ..
  rw [n3] at pn pz ⊢
  exact hQ _ (Heap.get?_push_of_some _ z3) (c3.at fun _ q => Heap.get?_push_of_some _ q) (c2.at fun _ q => Heap.get?_push_of_some _ q) pn pz fun c o n1 n2 n4 q => Heap.get?_push_of_some _ (k3 c o n1 n2 n4 q)
theorem heldT_end {Q : Fin → Shared → Prop} (hh : A.handled = none) (D : ZipApart z TI TO i1 i2 l1 l2) (hz : IsZipHeld s.heap z TI TO T f) (hT : s.heap.get? T = some oT) (hp : IsPair s.heap TI (.ref i1) (.ref i2))
    (a1 : s.heap.IsTupleIter i1 l1 k1) (b1 : s.heap.IsTuple l1 xs) (hx : xs[k1]? = none)
    (hE : ∀ h' e, (∀ c o, c ≠ z → c ≠ i1 → c ≠ i2 → s.heap.get? c = some o → h'.get? c = some o) → (∃ o, h'.get? e = some o ∧ o.cls = .type "StopIteration") → E (.ref e) { s with heap := h' }) :
    wpAny (model prog w) A (Builtin.«zip.__next__» ⟨[.ref z], []⟩) Q E s := by
  show wpAny _ A (field (.ref z) 2 >>= _) Q E s
  refine wpAny_bind (wpAny_field (x := .bool false) hz rfl rfl ?_)
  show wpAny _ A (field (.ref z) 3 >>= _) Q E s
  refine wpAny_bind (wpAny_field (x := .ref TI) hz rfl rfl (wpAny_bind (wpAny_seqItems hp rfl ?_)))
  show wpAny _ A (Builtin.SmallTypes.ownedTupleIsFree (.ref z) >>= _) Q E s
  refine wpAny_bind (wpAny_tupleHeld_zip hz hT fun g1 z1 e1 => ?_)
  rw [if_neg Bool.false_ne_true]
  refine wpAny_bind ?_
  rw [← Array.forIn_toList]
  simp only [List.forIn_nil, List.forIn_cons]
  refine wpAny_bind (wpAny_bind (wpAny_holding ?_))
  show wpAny _ A (Builtin.SmallTypes.nextOf (.ref i1) >>= _) _ E _
  exact wpAny_bind (nextOf_tuple_end (s := { s with heap := g1 }) hh (a1.extBut e1.extBut D.i1z) (b1.extBut e1.extBut D.l1z) hx fun g2 e e2 he => hE g2 e (fun c o n1 n2 _ q => e2 _ _ n2 (e1.extBut _ _ n1 q)) he)
theorem next_heldT {x y : Value} {Q : Option Value → Shared → Prop} (D : ZipApart z TI TO i1 i2 l1 l2) (hz : IsZipHeld s.heap z TI TO T f) (hT : s.heap.get? T = some oT) (hp : IsPair s.heap TI (.ref i1) (.ref i2))
    (a1 : s.heap.IsTupleIter i1 l1 k1) (a2 : s.heap.IsTupleIter i2 l2 k2) (b1 : s.heap.IsTuple l1 xs) (b2 : s.heap.IsTuple l2 ys) (hx : xs[k1]? = some x) (hy : ys[k2]? = some y)
    (hQ : ∀ h', IsZipHeld h' z TI TO T true → h'.IsTupleIter i1 l1 (k1 + 1) → h'.IsTupleIter i2 l2 (k2 + 1) → IsPair h' s.heap.objs.size x y → h'.objs.size = s.heap.objs.size + 1 →
      (∀ c o, c ≠ z → c ≠ i1 → c ≠ i2 → s.heap.get? c = some o → h'.get? c = some o) → Q (some (.ref s.heap.objs.size)) { s with heap := h' }) : wpAny (model prog w) A (pyNext (.ref z)) Q E s := by
  have ty : s.TypeIs (.ref z) "zip" := ⟨_, hz, rfl⟩
  unfold pyNext
  refine wpAny_bind (wpAny_attempt (wpAny_callSpecial?_slot (name := Str.ofString "__next__") ty F.slot_zip_next (wpAny_call_entry F.slot_zip_next ty F.entry_zip_next ?_ (F.args_zip_next_1 _))))
  exact heldT_item D hz hT hp a1 a2 b1 b2 hx hy fun h' y1 y2 y3 y4 y5 y6 => wpAny_pure (hQ h' y1 y2 y3 y4 y5 y6)
theorem next_heldT_end {Q : Option Value → Shared → Prop} (hh : A.handled = none) (D : ZipApart z TI TO i1 i2 l1 l2) (hz : IsZipHeld s.heap z TI TO T f) (hT : s.heap.get? T = some oT) (hp : IsPair s.heap TI (.ref i1) (.ref i2))
    (a1 : s.heap.IsTupleIter i1 l1 k1) (b1 : s.heap.IsTuple l1 xs) (hx : xs[k1]? = none)
    (hQ : ∀ h', (∀ c o, c ≠ z → c ≠ i1 → c ≠ i2 → s.heap.get? c = some o → h'.get? c = some o) → Q none { s with heap := h' }) : wpAny (model prog w) A (pyNext (.ref z)) Q E s := by
  have ty : s.TypeIs (.ref z) "zip" := ⟨_, hz, rfl⟩
  unfold pyNext
  refine wpAny_bind (wpAny_attempt (wpAny_callSpecial?_slot (name := Str.ofString "__next__") ty F.slot_zip_next (wpAny_call_entry F.slot_zip_next ty F.entry_zip_next ?_ (F.args_zip_next_1 _))))
  refine heldT_end hh D hz hT hp a1 b1 hx fun h' e hk he => ?_
  obtain ⟨o, ho, hc⟩ := he
  exact wpAny_bind (wpAny_isInstance (T := "StopIteration") (b := true) ⟨o, ho, hc⟩ isSubtype_stop (wpAny_pure (hQ h' hk)))
end
theorem zip_nolen : typeLookup (.type "zip") "__len__" = pure none := am_miss_of_fast (by decide +kernel)
theorem zip_nohint : typeLookup (.type "zip") "__length_hint__" = pure none := am_miss_of_fast (by decide +kernel)
/-- where the zip stands behind i turns -/
def ZipAt (h : Heap) (z TI TO i1 i2 a b q : Addr) (i : Nat) : Prop :=
  IsPair h TI (.ref i1) (.ref i2) ∧ h.IsTupleIter i1 a i ∧ h.IsTupleIter i2 b i ∧ ((IsZip h z TI TO .none ∧ ∃ x y, IsPair h TO x y) ∨ ∃ T f oT, IsZipHeld h z TI TO T f ∧ h.get? T = some oT ∧ T ≠ z ∧ T ≠ i1 ∧ T ≠ i2 ∧ T ≠ q ∧ ∃ o, h.get? TO = some o)
theorem ZipAt.keep {h h' : Heap} {z TI TO i1 i2 a b q : Addr} {i : Nat} (st : ZipAt h z TI TO i1 i2 a b q i) (d1 : q ≠ z) (d2 : q ≠ TI) (d3 : q ≠ TO) (d4 : q ≠ i1) (d5 : q ≠ i2) (k : ∀ c o, c ≠ q → h.get? c = some o → h'.get? c = some o) : ZipAt h' z TI TO i1 i2 a b q i := by
  obtain ⟨x1, x2, x3, x4⟩ := st
  refine ⟨k _ _ d2.symm x1, x2.at fun o e => k _ o d4.symm e, x3.at fun o e => k _ o d5.symm e, ?_⟩
  rcases x4 with ⟨hz, x, y, hT⟩ | ⟨T, f, oT, hz, hT, r⟩
  · exact .inl ⟨k _ _ d1.symm hz, x, y, k _ _ d3.symm hT⟩
  · obtain ⟨r1, r2, r3, r4, o, hO⟩ := r
    exact .inr ⟨T, f, oT, k _ _ d1.symm hz, k _ _ r4 hT, r1, r2, r3, r4, o, k _ _ d3.symm hO⟩
/-- the pairs so far -/
def PairsAt (H0 H : Hp) (Ts : List Addr) (ps : List (V × V)) : Prop := Paired (fun T p => H0 T = none ∧ H T = some (.tup [p.1, p.2])) Ts ps
theorem PairsAt.same {H0 H H' : Hp} {Ts : List Addr} {ps : List (V × V)} (h : PairsAt H0 H Ts ps) (e : ∀ T x, H0 T = none → H T = some (.tup x) → H' T = some (.tup x)) : PairsAt H0 H' Ts ps := by
  unfold PairsAt at h ⊢
  induction h with
  | nil => exact .nil
  | cons r _ ih => exact .cons ⟨r.1, e _ _ r.1 r.2⟩ ih
theorem paired_snoc {α β : Type} {F : α → β → Prop} {a : α} {b : β} : ∀ {l : List α} {m : List β}, Paired F l m → F a b → Paired F (l ++ [a]) (m ++ [b])
  | _, _, .nil, r => .cons r .nil
  | _, _, .cons h t, r => .cons h (paired_snoc t r)
section
variable {X : Cx} {pins : List (Addr × Obj)} {σ : L2.St} {A1 : Around} {a b z TI TO i1 i2 q : Addr} {xs ys : List V} {H0 : Hp} {Rs : Result → Shared → Prop}
theorem zip_loop (hh : A1.handled = none) (D : ZipApart z TI TO i1 i2 a b) (d1 : q ≠ z) (d2 : q ≠ TI) (d3 : q ≠ TO) (d4 : q ≠ i1) (d5 : q ≠ i2) (hl : xs.length = ys.length) (hz0 : xs.length < sizeLine)
    (hdone : ∀ (Ts : List Addr) (H : Hp) (s : Shared), Inv X pins σ H s → Same H0 H → H q = some (.lst (Ts.map V.ref)) → PairsAt H0 H Ts (xs.zip ys) → Rs (.ok (.ret .none)) s) (hq0 : H0 q = none) (ha0 : SqT X.K H0 a xs) (hb0 : SqT X.K H0 b ys) :
    ∀ (k i : Nat) (Ts : List Addr) (H : Hp) (s : Shared), xs.length - i = k → i ≤ xs.length → Inv X pins σ H s → Same H0 H → H q = some (.lst (Ts.map V.ref)) → PairsAt H0 H Ts ((xs.zip ys).take i) →
      (∀ c ∈ [z, TO, i1, i2], FpOk X pins H c) → ZipAt s.heap z TI TO i1 i2 a b q i → codeAny (model X.prog X.w) A1 (.builtin "list.extend.loop" ⟨[.ref q, .ref z, .none], []⟩) Rs s := by
  intro k
  induction k with
  | zero =>
    intro i Ts H s hk hi I sm hq hP hf st
    have hin : i = xs.length := by omega
    subst hin
    obtain ⟨x1, x2, x3, x4⟩ := st
    obtain ⟨its, rv, p, _⟩ := I.tuple (sqT_same sm ha0)
    obtain ⟨its2, rv2, p2, _⟩ := I.tuple (sqT_same sm hb0)
    have hn : its.toArray[xs.length]? = none := by simp [rv.length]
    have fin : ∀ h', (∀ c o, c ∉ [z, TO, i1, i2] → s.heap.get? c = some o → h'.get? c = some o) → Rs (.ok (.ret .none)) { s with heap := h' } := fun h' kp => by
      refine hdone Ts H _ (I.turnedL (t' := s.toks) (ch := [z, TO, i1, i2]) (fun c o n e => kp c o n e) hf) sm hq ?_
      have e : (xs.zip ys).take xs.length = xs.zip ys := List.take_of_length_le (by rw [List.length_zip]; omega)
      rw [e] at hP
      exact hP
    refine codeAny_builtin PySem.F.entry_extend_loop ?_
    rw [Around.under_plainId PySem.F.plain_extend_loop _]
    show wpAny _ A1.in1 (pyNext (.ref z) >>= _) _ _ s
    refine wpAny_bind ?_
    rcases x4 with ⟨hz, x, y, hT⟩ | ⟨T, f, oT, hz, hT, r⟩
    · exact pyNext_zipT_end hh D hz x1 hT x2 x3 p p2 (.inl hn) fun h' kp => wpAny_pure (fin h' fun c o n e => kp c o (fun z => n (by simp [z])) (fun z => n (by simp [z])) (fun z => n (by simp [z])) (fun z => n (by simp [z])) e)
    · exact next_heldT_end hh D hz hT x1 x2 p hn fun h' kp => wpAny_pure (fin h' fun c o n e => kp c o (fun z => n (by simp [z])) (fun z => n (by simp [z])) (fun z => n (by simp [z])) e)
  | succ k ih =>
    intro i Ts H s hk hi I sm hq hP hf st
    have hlt : i < xs.length := by omega
    have hlt2 : i < ys.length := by omega
    obtain ⟨x1, x2, x3, x4⟩ := st
    obtain ⟨its, rv, p, _⟩ := I.tuple (sqT_same sm ha0)
    obtain ⟨its2, rv2, p2, _⟩ := I.tuple (sqT_same sm hb0)
    obtain ⟨u, hu, ru⟩ := rv.get (List.getElem?_eq_getElem hlt)
    obtain ⟨u2, hu2, ru2⟩ := rv2.get (List.getElem?_eq_getElem hlt2)
    have lenT : Ts.length = i := by
      have e := paired_len hP
      rw [List.length_take, List.length_zip] at e
      omega
    have qT : ∀ c : Addr, H c = none → c ≠ q := fun c hc e => by rw [e, hq] at hc; cases hc
    -- what follows a turn that handed out a new pair
    have turn : ∀ h' : Heap, (∀ c o, c ∉ [z, TO, i1, i2] → s.heap.get? c = some o → h'.get? c = some o) → IsPair h' s.heap.objs.size u u2 → ZipAt h' z TI TO i1 i2 a b q (i + 1) →
        wpAny (model X.prog X.w) A1.in1 (updateSeq q (·.push (.ref s.heap.objs.size)) >>= fun _ => again (.builtin "list.extend.loop" ⟨[.ref q, .ref z, .none], []⟩))
          (fun fin s' => match fin with | .done f => Rs (.ok f) s' | .again c' => c'.quiet = true ∧ codeAny (model X.prog X.w) A1 c' Rs s') (fun e s' => Rs (.error e) s') { s with heap := h' } := fun h' kp pn st' => by
      have new : ObjOk X.prog X.w (upd H s.heap.objs.size (.tup [xs[i], ys[i]])) h' s.heap.objs.size (.tup [xs[i], ys[i]]) := ⟨by show 2 ≤ sizeLine; decide, [u, u2], .cons ru (.cons ru2 .nil), ⟨_, pn, rfl, _, rfl⟩⟩
      have nT : H s.heap.objs.size = none := I.hok.fresh (Nat.le_refl _)
      have I1 : Inv X pins σ (upd H s.heap.objs.size (.tup [xs[i], ys[i]])) { s with heap := h' } := I.turnedNew (t' := s.toks) (ch := [z, TO, i1, i2]) kp hf (Nat.le_refl _) new
      have hq1 : upd H s.heap.objs.size (.tup [xs[i], ys[i]]) q = some (.lst (Ts.map V.ref)) := by rw [upd_ne (qT _ nT).symm]; exact hq
      obtain ⟨_, jts, kk, r2, hl2, e⟩ := I1.lstM hq1
      have I2 := I1.lset (f := (·.push (.ref s.heap.objs.size))) (its' := jts ++ [.ref s.heap.objs.size]) (ys := Ts.map V.ref ++ [.ref s.heap.objs.size]) (t' := s.toks) hq1 e (by simp) (r2.append (.cons (show RelV (V.ref s.heap.objs.size) (Value.ref s.heap.objs.size) from rfl) .nil)) (by rw [List.length_append, List.length_map]; simp; omega)
      have hjl : jts.length = i := by rw [← hl2, List.length_map, lenT]
      refine wpAny_bind (wpAny_updateSeq e rfl (wpAny_pure ⟨plainId_quiet PySem.F.plain_extend_loop _, ?_⟩) (by rw [List.size_toArray]; omega) (by show (jts.toArray.push _).size ≤ sizeLine + 1; rw [Array.size_push, List.size_toArray]; omega))
      have T0 : H0 s.heap.objs.size = none := by
        cases h0 : H0 s.heap.objs.size with
        | none => rfl
        | some o => exact (ne_of_none (sm _ _ h0) nT rfl).elim
      refine ih (i + 1) (Ts ++ [s.heap.objs.size]) _ _ (by omega) hlt I2 (fun c o e0 => ?_) ?_ ?_ (fun c hc => ?_) (st'.keep d1 d2 d3 d4 d5 fun c o n e' => (Heap.get?_update_other _ _ (Ne.symm n)).trans e')
      · rw [upd_ne (fun e' : c = q => by rw [e', hq0] at e0; cases e0), upd_ne (ne_of_none (sm _ _ e0) nT)]
        exact sm _ _ e0
      · rw [upd_same, List.map_append]
        rfl
      · have hz : (xs.zip ys)[i]? = some (xs[i], ys[i]) := by rw [List.getElem?_zip_eq_some]; exact ⟨List.getElem?_eq_getElem hlt, List.getElem?_eq_getElem hlt2⟩
        rw [List.take_succ, hz]
        refine paired_snoc (hP.same fun T x n e' => ?_) ⟨T0, ?_⟩
        · have nq : T ≠ q := fun z => by rw [z, hq] at e'; cases e'
          rw [upd_ne nq, upd_ne (ne_of_none e' nT)]
          exact e'
        · rw [upd_ne (qT _ nT), upd_same]
      · have f := hf c hc
        obtain ⟨f0, f1, f2, f3, f4, f5⟩ := f
        refine ⟨?_, f1, f2, f3, f4, f5⟩
        have nq : c ≠ q := qT c f0
        rw [upd_ne nq]
        have lt : c < s.heap.objs.size := by
          simp only [List.mem_cons, List.not_mem_nil, or_false] at hc
          obtain ⟨o1, q1, _⟩ := x2
          obtain ⟨o2, q2, _⟩ := x3
          rcases hc with rfl | rfl | rfl | rfl
          · rcases x4 with ⟨hz, _⟩ | ⟨T, f, oT, hz, _⟩
            · exact Heap.lt_size hz
            · exact Heap.lt_size hz
          · rcases x4 with ⟨hz, x, y, hT⟩ | ⟨T, f, oT, hz, _, _, _, _, _, o, hO⟩
            · exact Heap.lt_size hT
            · exact Heap.lt_size hO
          · exact Heap.lt_size q1
          · exact Heap.lt_size q2
        rw [upd_ne (Nat.ne_of_lt lt)]
        exact f0
    have lt : ∀ {c o}, s.heap.get? c = some o → s.heap.objs.size ≠ c := fun e => Nat.ne_of_gt (Heap.lt_size e)
    have m1 : s.heap.objs.size ≠ i1 := let ⟨_, e, _⟩ := x2; lt e
    have m2 : s.heap.objs.size ≠ i2 := let ⟨_, e, _⟩ := x3; lt e
    have m3 : s.heap.objs.size ≠ q := by
      obtain ⟨_, jts, kk, _, _, e⟩ := I.lstM hq
      exact lt e
    refine codeAny_builtin PySem.F.entry_extend_loop ?_
    rw [Around.under_plainId PySem.F.plain_extend_loop _]
    show wpAny _ A1.in1 (pyNext (.ref z) >>= _) _ _ s
    refine wpAny_bind ?_
    rcases x4 with ⟨hz, x, y, hT⟩ | ⟨T, f, oT, hz, hT, r⟩
    · refine pyNext_zipT_item D hz x1 hT x2 x3 p p2 (x := u) (y := u2) (by simpa using hu) (by simpa using hu2) fun h' z' TO' h1' h2' hT' hsz kp => ?_
      refine turn h' (fun c o n e => kp c o (fun z => n (by simp [z])) (fun z => n (by simp [z])) (fun z => n (by simp [z])) (fun z => n (by simp [z])) e) hT' ⟨kp _ _ D.TIz D.TITO D.TIi1 D.TIi2 x1, h1', h2', .inr ⟨s.heap.objs.size, false, _, z', hT', lt hz, m1, m2, m3, _, TO'⟩⟩
    · refine next_heldT D hz hT x1 x2 x3 p p2 (x := u) (y := u2) (by simpa using hu) (by simpa using hu2) fun h' z' h1' h2' hT' hsz kp => ?_
      refine turn h' (fun c o n e => kp c o (fun z => n (by simp [z])) (fun z => n (by simp [z])) (fun z => n (by simp [z])) e) hT' ⟨kp _ _ D.TIz D.TIi1 D.TIi2 x1, h1', h2', .inr ⟨T, true, oT, z', kp _ _ r.1 r.2.1 r.2.2.1 hT, r.1, r.2.1, r.2.2.1, r.2.2.2.1, let ⟨o, hO⟩ := r.2.2.2.2; ⟨o, kp _ _ D.TOz D.TOi1 D.TOi2 hO⟩⟩⟩
/-- list(it), it a zip of two tuples of one length, just made -/
theorem list_zip {A : Around} {E : Value → Shared → Prop} {s : Shared} {H : Hp} {Q : Value → Shared → Prop} (hh : A.handled = none) (D : ZipApart z TI TO i1 i2 a b) (hl : xs.length = ys.length) (hz0 : xs.length < sizeLine) (I : Inv X pins σ H s)
    (ha0 : SqT X.K H a xs) (hb0 : SqT X.K H b ys) (hf : ∀ c ∈ [z, TO, i1, i2], FpOk X pins H c) (hz : IsZip s.heap z TI TO .none) (hp : IsPair s.heap TI (.ref i1) (.ref i2)) (hO : IsPair s.heap TO .none .none)
    (h1 : s.heap.IsTupleIter i1 a 0) (h2 : s.heap.IsTupleIter i2 b 0)
    (hQ : ∀ (q : Addr) (Ts : List Addr) (H' : Hp) (s' : Shared), Inv X pins σ H' s' → Same H H' → H q = none → H' q = some (.lst (Ts.map V.ref)) → PairsAt H H' Ts (xs.zip ys) → Q (.ref q) s') :
    wpAny (model X.prog X.w) A (call (.type "list") [.ref z]) Q E s := by
  refine callType_codes (Q₁ := fun obj s₁ => obj = .ref s.heap.objs.size ∧ s₁ = { s with heap := s.heap.push { cls := .type "list", data := .seq #[] } }) PySem.F.called_list (PySem.F.typeCall_list_1 _) PySem.F.entry_list_init (code_list_new _ ⟨rfl, rfl⟩) fun obj s₁ e1 => ?_
  obtain ⟨rfl, rfl⟩ := e1
  have hS : (s.heap.push { cls := .type "list", data := .seq #[] }).get? s.heap.objs.size = some { cls := .type "list", data := .seq #[] } := Heap.get?_push_size s.heap rfl
  refine ⟨⟨_, hS, rfl⟩, PySem.F.args_list_init_2 _ _, ?_⟩
  have fr : H s.heap.objs.size = none := I.hok.fresh (Nat.le_refl _)
  have I1 : Inv X pins σ (upd H s.heap.objs.size (.lst [])) { s with heap := s.heap.push { cls := .type "list", data := .seq #[] } } := I.lnew (its := []) (t' := s.toks) .nil (Nat.zero_le _)
  have lz : z < s.heap.objs.size := Heap.lt_size hz
  have lTI : TI < s.heap.objs.size := Heap.lt_size hp
  have lTO : TO < s.heap.objs.size := Heap.lt_size hO
  have l1 : i1 < s.heap.objs.size := let ⟨_, e, _⟩ := h1; Heap.lt_size e
  have l2 : i2 < s.heap.objs.size := let ⟨_, e, _⟩ := h2; Heap.lt_size e
  show wpAny _ A.in1.in1 (do let old ← Builtin.List.listItems (.ref s.heap.objs.size); Builtin.List.listUpdate (.ref s.heap.objs.size) (fun _ => #[]); letGo old.toList.reverse; Builtin.List.listExtendWith (.ref s.heap.objs.size) (.ref z) .none) _ _ _
  refine wpAny_bind ?_
  unfold Builtin.List.listItems
  refine wpAny_bind (wpAny_seqItems hS rfl (wpAny_pure ?_))
  show wpAny _ A.in1.in1 (updateSeq s.heap.objs.size (fun _ => #[]) >>= fun _ => letGo (#[] : Array Value).toList.reverse >>= fun _ => Builtin.List.listExtendWith (.ref s.heap.objs.size) (.ref z) .none) _ _ _
  refine wpAny_bind (wpAny_updateSeq hS rfl (wpAny_bind (wpAny_letGo ?_)))
  have I2 := I1.lset (f := fun _ => #[]) (its := []) (its' := []) (ys := []) (t' := s.toks) upd_same hS rfl .nil (Nat.zero_le _)
  rw [upd_upd] at I2
  obtain ⟨_, js, kk, r3, hl3, e3⟩ := I2.lstM upd_same
  cases r3
  have kp : ∀ c o, c < s.heap.objs.size → s.heap.get? c = some o → ((s.heap.push { cls := .type "list", data := .seq #[] }).update s.heap.objs.size (Obj.mapSeq fun _ => #[])).get? c = some o := fun c o n e => (Heap.get?_update_other _ _ (Nat.ne_of_gt n)).trans (Heap.get?_push_of_some _ e)
  have st : ZipAt ((s.heap.push { cls := .type "list", data := .seq #[] }).update s.heap.objs.size (Obj.mapSeq fun _ => #[])) z TI TO i1 i2 a b s.heap.objs.size 0 :=
    ⟨kp _ _ lTI hp, h1.at fun o e => kp _ o l1 e, h2.at fun o e => kp _ o l2 e, .inl ⟨kp _ _ lz hz, .none, .none, kp _ _ lTO hO⟩⟩
  have ty : ({ s with heap := (s.heap.push { cls := .type "list", data := .seq #[] }).update s.heap.objs.size (Obj.mapSeq fun _ => #[]) } : Shared).TypeIs (.ref z) "zip" := ⟨_, kp _ _ lz hz, rfl⟩
  unfold Builtin.List.listExtendWith
  refine wpAny_bind (wpAny_typeOf ty ?_)
  have n1 : Builtin.List.listSameRef (.ref s.heap.objs.size) (.ref z) = false := by simp [Builtin.List.listSameRef, Nat.ne_of_gt lz]
  have n2 : (Value.type "zip" == Value.type "list") = false := by decide
  have n3 : (Value.type "zip" == Value.type "tuple") = false := by decide
  simp only [n1, n2, n3, Bool.or_false, Bool.false_eq_true, if_false]
  refine wpAny_bind (wpAny_pyIter_zip (kp _ _ lz hz) (wpAny_bind (wpAny_holding ?_)))
  unfold Builtin.List.listLengthHint
  refine wpAny_bind (wpAny_specialOf ty zip_nolen ?_)
  show wpAny _ A.in1.in1 (specialOf (Value.ref z) (Str.ofString "__length_hint__") >>= _) _ _ _
  refine wpAny_bind (wpAny_specialOf ty zip_nohint (wpAny_pure ?_))
  show wpAny _ A.in1.in1 (rule "list.extend.makes-room" >>= fun _ => Builtin.List.listTouch (.ref s.heap.objs.size) >>= fun _ => again (.builtin "list.extend.loop" ⟨[.ref s.heap.objs.size, .ref z, .none], []⟩)) _ _ _
  refine wpAny_bind (wpAny_rule (wpAny_bind ?_))
  show wpAny _ A.in1.in1 (updateSeq s.heap.objs.size (·.push .none) >>= fun _ => updateSeq s.heap.objs.size (·.pop)) _ _ _
  refine wpAny_bind (wpAny_updateSeq e3 rfl ?_)
  have I3 := I2.lset (f := (·.push Value.none)) (its' := [Value.none]) (ys := [.non]) (t' := s.toks) upd_same e3 (by simp) (.cons rfl .nil) (by rw [List.length_singleton, sizeLine_eq]; decide)
  rw [upd_upd] at I3
  obtain ⟨_, j4, k4, r4, hl4, e4⟩ := I3.lstM upd_same
  obtain ⟨u4, rfl, ru4⟩ := r4.one
  refine wpAny_updateSeq e4 rfl ?_ (by show 1 ≤ sizeLine; rw [sizeLine_eq]; decide) (by show 0 ≤ sizeLine + 1; exact Nat.zero_le _)
  have I4 := I3.lset (f := (·.pop)) (its := [u4]) (its' := []) (ys := []) (t' := s.toks) upd_same e4 (by rfl) .nil (Nat.zero_le _)
  rw [upd_upd] at I4
  have sm : Same H (upd H s.heap.objs.size (.lst [])) := fun c o e => by rw [upd_ne (ne_of_none e fr)]; exact e
  refine wpAny_pure ⟨plainId_quiet PySem.F.plain_extend_loop _, zip_loop (H0 := H) (A1 := A.in1) hh D (Nat.ne_of_gt lz) (Nat.ne_of_gt lTI) (Nat.ne_of_gt lTO) (Nat.ne_of_gt l1) (Nat.ne_of_gt l2) hl hz0 (fun Ts H' s' I' sm' hq' hP' => ?_) fr ha0 hb0 xs.length 0 [] _ _ rfl (Nat.zero_le _) I4 sm upd_same ?_ (fun c hc => ?_) ?_⟩
  · exact ⟨rfl, hQ _ Ts H' s' I' sm' fr hq' hP'⟩
  · rw [List.take_zero]
    exact .nil
  · obtain ⟨f0, f1, f2, f3, f4, f5⟩ := hf c hc
    have lt : c < s.heap.objs.size := by
      simp only [List.mem_cons, List.not_mem_nil, or_false] at hc
      rcases hc with rfl | rfl | rfl | rfl <;> assumption
    exact ⟨by rw [upd_ne (Nat.ne_of_lt lt)]; exact f0, f1, f2, f3, f4, f5⟩
  · exact (st.keep (Nat.ne_of_gt lz) (Nat.ne_of_gt lTI) (Nat.ne_of_gt lTO) (Nat.ne_of_gt l1) (Nat.ne_of_gt l2) fun c o n e => (Heap.get?_update_other _ _ (Ne.symm n)).trans ((Heap.get?_update_other _ _ (Ne.symm n)).trans e))
end
/-- list(zip(e, e2)), two tuples of one length -/
def tListZip (K : PySem.W.Frag) (ta : TA) : TE := fun σ H Q => ta σ H fun vs H1 => ∃ a b xs ys, vs = [.ref a, .ref b] ∧ SqT K H1 a xs ∧ SqT K H1 b ys ∧ xs.length = ys.length ∧ xs.length < sizeLine ∧
  ∀ (q : Addr) (Ts : List Addr) (H2 : Hp), Same H1 H2 → H1 q = none → H2 q = some (.lst (Ts.map V.ref)) → PairsAt H1 H2 Ts (xs.zip ys) → Q (.ref q) H2
theorem pe_listZip {X : Cx} {e e2 : Expr} {ta : TA} {p p2 pos pos2 : Pos} (hc : X.calm = true) (hg : Gl X "list") (hm : X.mg "list" = none) (hg2 : Gl X "zip") (hm2 : X.mg "zip" = none) (ha : PA X [e, e2] ta)
    (hs0 : starEach [.Call (.Name "zip" p2) [e, e2] [] pos2] X.env = (false, eval (.Call (.Name "zip" p2) [e, e2] [] pos2) X.env) :: starEach [] X.env := by rfl) (hp0 : (backTo pos (starEach [] X.env)).any (·.1) = false := by rfl)
    (hs : starEach [e, e2] X.env = (false, eval e X.env) :: starEach [e2] X.env := by rfl) (hpl : (backTo pos2 (starEach [e2] X.env)).any (·.1) = false := by rfl) :
    PE X (.Call (.Name "list" p) [.Call (.Name "zip" p2) [e, e2] [] pos2] [] pos) (tListZip X.K ta) := by
  refine ⟨fun pins s σ H Q I h => ?_⟩
  have inner : wpAny (model X.prog X.w) X.A (eval (.Call (.Name "zip" p2) [e, e2] [] pos2) X.env) (fun v s1 => wpAny (model X.prog X.w) X.A (call (.type "list") [v]) (EP X pins σ Q) X.xe s1) X.xe s := by
    refine Call_ (ld_blt I hg2 hm2 PyProof.Rows.boot_zip (PyProof.Rows.callWith_type1 (thn (ha.run pos2 pins s σ H _ I h) fun us s1 hh => ?_) hs hpl))
    obtain ⟨vs, H1, I1, r1, a, b, xs, ys, rfl, hqx, hqy, hl, hz, q⟩ := hh
    match us, r1 with
    | [u1, u2], .cons r (.cons r' .nil) =>
      cases (show u1 = Value.ref a from r)
      cases (show u2 = Value.ref b from r')
      obtain ⟨its, rv, p1, _⟩ := I1.tuple hqx
      obtain ⟨its2, rv2, p2, _⟩ := I1.tuple hqy
      obtain ⟨o1, ho1, _⟩ := id p1
      obtain ⟨o2, ho2, _⟩ := id p2
      refine call_zipT (show s1.heap.IsTuple a its.toArray from p1) (show s1.heap.IsTuple b its2.toArray from p2) fun h' hz' hTI hTO h1 h2 hsz hk => ?_
      have I2 : Inv X pins σ H1 { s1 with heap := h' } := I1.kept (t' := s1.toks) hk
      refine list_zip (I1.ok.hd hc) (PySem.W.ktu_apart s1.heap.objs.size a b (Heap.lt_size ho1) (Heap.lt_size ho2)) hl hz I2 hqx hqy (fun c hcm => ?_) hz' hTI hTO h1 h2 fun q' Ts H' s' I' sm nq hq' hP => ⟨.ref q', H', I', rfl, q q' Ts H' sm nq hq' hP⟩
      have hle : s1.heap.objs.size ≤ c := by
        simp only [List.mem_cons, List.not_mem_nil, or_false] at hcm
        rcases hcm with z | z | z | z
        · rw [z]; exact Nat.le_add_right _ _
        · rw [z]; exact Nat.le_add_right _ _
        · rw [z]; exact Nat.le_refl _
        · rw [z]; exact Nat.le_add_right _ _
      exact I1.fpOk hle (I1.hok.fresh hle)
  have args : wpAny (model X.prog X.w) X.A (spliced (backTo pos (starEach [.Call (.Name "zip" p2) [e, e2] [] pos2] X.env))) (fun vs s1 => wpAny (model X.prog X.w) X.A (call (.type "list") vs) (EP X pins σ Q) X.xe s1) X.xe s := by
    rw [hs0]
    show wpAny _ _ (spliced [(false, eval (.Call (.Name "zip" p2) [e, e2] [] pos2) X.env)]) _ _ s
    exact Calls.spliced_cons (thn inner fun v s1 q => Calls.spliced_nil q)
  exact wpAny_Call_Name_kw (ld_blt I hg hm PyProof.Rows.boot_list (PyProof.Rows.callWith_type1 args hs0 hp0))
end Lw

set_option Elab.async false
set_option linter.all false
set_option maxRecDepth 100000
set_option maxHeartbeats 4000000
/-! Great powers, a set of a tuple's ints, a class's static def. -/
namespace Lw
open PySem PySem.Spec PyProof.Rows L2
def CPowB (i j : Int) : Prop := 0 ≤ j ∧ (Builtin.Int.intBits i : Int) * j ≤ 2 ^ 27
theorem op_powB {X : Cx} : OpR X (binaryOp .Pow) (rI CPowB fun i j => .int (i ^ j.toNat)) := opI fun _ _ _ _ _ _ _ hc q => pow_int hc.1 hc.2 q
/-- set(t), t a tuple of ints -/
def rSetT (K : PySem.W.Frag) (w : World) : List V → Hp → VK → Prop := fun xs H Q => ∃ (a : Addr) (ns : List Int), xs = [.ref a] ∧ SqT K H a (ns.map V.int) ∧ ns.length + 1 < scanBound ∧ ∀ (p : Addr) (n : Nat), H p = none → n ≤ ns.length → Q (.ref p) (upd H p (SetO w p (fun j => decide (j ∈ ns)) n))
theorem cr_setT {X : Cx} (hc : X.calm = true) : CallR X (.type "set") (rSetT X.K X.w) := by
  intro pins s σ H xs us Q I r h
  obtain ⟨a, ns, rfl, ha, hb, q⟩ := h
  obtain ⟨u, rfl, ru⟩ := r.one
  cases (show u = Value.ref a from ru)
  obtain ⟨its, rv, pt, hz⟩ := I.tuple ha
  refine call_set_tupI ns (I.ok.hd hc) (show s.heap.IsTuple a its.toArray from pt) (by simpa using ints_of_vals rv) hb fun h' tk c R hle k => ?_
  exact ⟨.ref _, _, I.laid (t' := tk) k (Nat.le_refl _) (setO_new R), rfl, q _ _ (I.hok.fresh (Nat.le_refl _)) hle⟩
/-- a class's static def at f, its wrapper at p -/
structure StaticOf (K : PySem.W.Frag) (C : Addr) (m : Str) (p f : Addr) : Prop where
  reads : PySem.W.readsIn K C (.type "type") = true
  find : PySem.W.findCls K (.ref C) (.type "type") m = some (.get (.builtin "staticmethod.__get__") (.ref p) .none (.ref C))
  sm : ∃ rest, PySem.W.recIn K p "staticmethod" = some (.ref f :: rest)
  hand : PySem.W.handedIn (.ref f) = true
  attr : PySem.W.specialIn K (.ref C) "__getattribute__" = some (some (.builtin "type.__getattribute__"))
  kp : PySem.W.keepIn K (.ref f) = true
/-- C.m(e, ..) -/
theorem pe_static {X : Cx} {CX : CXT} {k : Nat} {C p f : Addr} {x m : Str} {np apos pos : Pos} {fd : FuncData} {ps : List Str} {sp : Sp} {dvs : List V} {ds : List Value} {E : XK} {e : Expr} {es : List Expr} {t : TA} {pl : Sem Bool}
    (S : StaticOf X.K C m p f) (F : FnOk X.prog X.w X.K X.mg X.base CX k f fd ps sp) (hr : Room k X.A) (hg : Gl X x) (hm : X.mg x = some (.ref C)) (hb : Binds X.K fd ps ds) (hd : Vals dvs ds) (hx : Passes CX X E) (ha : PA X (e :: es) t)
    (hdb : (x == ("__debug__" : Str)) = false := by decide) (he : starEach (e :: es) X.env = (false, eval e X.env) :: starEach es X.env := by rfl) (hpl : (backTo pos (starEach es X.env)).any (·.1) = false := by rfl)
    (ht : eval (.Call (.Attribute (.Name x np) m apos) (e :: es) [] pos) X.env = (do
      let ov ← eval (.Name x np) X.env
      standAt apos.atName
      let (f, first) ← holding [ov] (getMethod ov m pl)
      callWith pos f first (backTo pos (starEach (e :: es) X.env)) (backToKw pos (keywordEach [] X.env))) := by rfl) : PE X (.Call (.Attribute (.Name x np) m apos) (e :: es) [] pos) (tCall sp dvs E t) := by
  refine ⟨fun pins s σ H Q I h => PySem.W.methodCall_KW (pl := pl) (ld_glob I hg hm ?_ hdb) ht⟩
  obtain ⟨rest, hrec⟩ := S.sm
  refine PySem.W.method_cls I.kIn S.attr (PySem.W.cls_bind I.kIn S.reads S.find (wpAny_call (PySem.W.sm_get (s := { s with toks := s.toks + 1 }) I.kIn hrec (PySem.W.handed_on S.hand ?_))))
  have I2 : Inv X pins σ H { s with toks := s.toks + 1 } := I.tok _
  refine PySem.W.callWith_K (h₀ := X.base) I2.ok.mod.kin S.kp (thn (ha.run pos pins { s with toks := s.toks + 1 } σ H _ I2 h) fun us s1 hh => ?_) he hpl
  obtain ⟨vs, H1, I1, r, q⟩ := hh
  exact ⟨I1.kIn, run_fn F hr hb hd hx I1 r q⟩
end Lw

set_option Elab.async false
set_option linter.all false
set_option maxRecDepth 100000
set_option maxHeartbeats 4000000
/-! A def's promise with all that a call asks of it, in one fact; the calls by it. -/
namespace Lw
open PySem PySem.Spec PyProof.Rows L2
/-- the def at f keeps sp at level k; nothing goes out of it -/
structure Pr (P : Program) (w : World) (K : PySem.W.Frag) (mg : Str → Option Value) (base : Heap) (k : Nat) (f : Addr) (ps : List Str) (sp : Sp) : Prop where
  ex : ∃ fd, FnOk P w K mg base CX0 k f fd ps sp ∧ Binds K fd ps []
  kp : PySem.W.keepIn K (.ref f) = true
theorem Pr.of {P : Program} {w : World} {K : PySem.W.Frag} {mg : Str → Option Value} {base : Heap} {k : Nat} {f : Addr} {fd : FuncData} {ps : List Str} {sp : Sp} (h : FnOk P w K mg base CX0 k f fd ps sp) (b : Binds K fd ps []) (kp : PySem.W.keepIn K (.ref f) = true) : Pr P w K mg base k f ps sp := ⟨⟨fd, h, b⟩, kp⟩
section
variable {X : Cx} {k : Nat} {f C : Addr} {x m : Str} {ps : List Str} {sp : Sp} {E : XK} {p pos apos np : Pos} {o e : Expr} {es : List Expr} {ta : TE} {t : TA}
theorem pcl (G : Pr X.prog X.w X.K X.mg X.base k f ps sp) (hr : Room k X.A) (hg : Gl X x) (hm : X.mg x = some (.ref f)) (ha : PA X (e :: es) t) (hdb : (x == ("__debug__" : Str)) = false := by decide)
    (he : starEach (e :: es) X.env = (false, eval e X.env) :: starEach es X.env := by rfl) (hpl : (backTo pos (starEach es X.env)).any (·.1) = false := by rfl) : PE X (.Call (.Name x p) (e :: es) [] pos) (tCall sp [] E0 t) := by
  obtain ⟨fd, F, b⟩ := G.ex
  exact pe_call F hr hg hm G.kp b .nil pass0 ha hdb he hpl
theorem pmk (M : Mk X.K C f) (G : Pr X.prog X.w X.K X.mg X.base k f ps sp) (hr : Room (k + 1) X.A) (hg : Gl X x) (hm : X.mg x = some (.ref C)) (ha : PA X (e :: es) t) (hdb : (x == ("__debug__" : Str)) = false := by decide)
    (he : starEach (e :: es) X.env = (false, eval e X.env) :: starEach es X.env := by rfl) (hpl : (backTo pos (starEach es X.env)).any (·.1) = false := by rfl) : PE X (.Call (.Name x p) (e :: es) [] pos) (tMake C sp [] E0 t) := by
  obtain ⟨fd, F, b⟩ := G.ex
  exact pe_make M F hr hg hm b .nil pass0 ha hdb he hpl
theorem pmt {pl : Sem Bool} (he : PE X o ta) (c : Cls X.K C) (hm : PySem.W.findIn X.K (.ref C) m = some (some (.ref f))) (hf : PySem.W.isFn X.K (.ref f) = true) (G : Pr X.prog X.w X.K X.mg X.base k f ps sp) (hr : Room k X.A) (ha : PA X (e :: es) t)
    (hst : starEach (e :: es) X.env = (false, eval e X.env) :: starEach es X.env := by rfl) (hpl : (backTo pos (starEach es X.env)).any (·.1) = false := by rfl)
    (ht : eval (.Call (.Attribute o m apos) (e :: es) [] pos) X.env = (do
      let ov ← eval o X.env
      standAt apos.atName
      let (f, first) ← holding [ov] (getMethod ov m pl)
      callWith pos f first (backTo pos (starEach (e :: es) X.env)) (backToKw pos (keywordEach [] X.env))) := by rfl) :
    PE X (.Call (.Attribute o m apos) (e :: es) [] pos) (tMeth C m sp [] E0 ta t) := by
  obtain ⟨fd, F, b⟩ := G.ex
  exact pe_meth he c ⟨hm, hf, G.kp⟩ F hr b .nil pass0 ha hst hpl ht
theorem ppr {q : Addr} (he : PE X e ta) (c : Cls X.K C) (hp : PropOf X.K C m q f) (G : Pr X.prog X.w X.K X.mg X.base k f ps sp) (hr : Room (k + 1) X.A) (hab : attributeBase e m X.env (eval e X.env) = eval e X.env := by rfl) : PE X (.Attribute e m pos) (tProp C sp [] E0 ta) := by
  obtain ⟨fd, F, b⟩ := G.ex
  exact pe_prop he c hp F hr b .nil pass0 hab
theorem pst {q : Addr} {pl : Sem Bool} (S : StaticOf X.K C m q f) (G : Pr X.prog X.w X.K X.mg X.base k f ps sp) (hr : Room k X.A) (hg : Gl X x) (hm : X.mg x = some (.ref C)) (ha : PA X (e :: es) t)
    (hdb : (x == ("__debug__" : Str)) = false := by decide) (he : starEach (e :: es) X.env = (false, eval e X.env) :: starEach es X.env := by rfl) (hpl : (backTo pos (starEach es X.env)).any (·.1) = false := by rfl)
    (ht : eval (.Call (.Attribute (.Name x np) m apos) (e :: es) [] pos) X.env = (do
      let ov ← eval (.Name x np) X.env
      standAt apos.atName
      let (f, first) ← holding [ov] (getMethod ov m pl)
      callWith pos f first (backTo pos (starEach (e :: es) X.env)) (backToKw pos (keywordEach [] X.env))) := by rfl) : PE X (.Call (.Attribute (.Name x np) m apos) (e :: es) [] pos) (tCall sp [] E0 t) := by
  obtain ⟨fd, F, b⟩ := G.ex
  exact pe_static S F hr hg hm b .nil pass0 ha hdb he hpl ht
variable {p1 p2 : Str}
theorem opB {op : Operator} (hs : PySem.W.findIn X.K (.ref C) (PySem.dunder op.info.2) = some (some (.ref f))) (hf : PySem.W.isFn X.K (.ref f) = true) (hc : PySem.W.selfFirst X.K C = true) (G : Pr X.prog X.w X.K X.mg X.base k f [p1, p2] sp) (hr : Room k X.A) : OpR X (binaryOp op) (rOwnB C sp E0) := by
  obtain ⟨fd, F, b⟩ := G.ex
  exact op_ownB hs hf hc F hr b pass0
theorem opIn (hs : PySem.W.findIn X.K (.ref C) "__contains__" = some (some (.ref f))) (hf : PySem.W.isFn X.K (.ref f) = true) (G : Pr X.prog X.w X.K X.mg X.base k f [p1, p2] sp) (hr : Room k X.A) : OpR X (compareOp .In) (rOwnIn C sp E0) := by
  obtain ⟨fd, F, b⟩ := G.ex
  exact op_ownIn hs hf F hr b pass0
theorem opEq (hs : PySem.W.findIn X.K (.ref C) "__eq__" = some (some (.ref f))) (hf : PySem.W.isFn X.K (.ref f) = true) (G : Pr X.prog X.w X.K X.mg X.base k f [p1, p2] sp) (hr : Room k X.A) : OpR X (compareOp .Eq) (rOwnEq X.K C sp E0) := by
  obtain ⟨fd, F, b⟩ := G.ex
  exact op_ownEq hs hf F hr b pass0
theorem opNe (hm : PySem.W.mroIn X.K C (.type "object") = some true) (hne : PySem.W.findIn X.K (.ref C) "__ne__" = some (some (.builtin "object.__ne__"))) (hs : PySem.W.findIn X.K (.ref C) "__eq__" = some (some (.ref f))) (hf : PySem.W.isFn X.K (.ref f) = true)
    (G : Pr X.prog X.w X.K X.mg X.base k f [p1, p2] sp) (hr : Room (k + 1) X.A) : OpR X (compareOp .NotEq) (rOwnNe X.K C sp E0) := by
  obtain ⟨fd, F, b⟩ := G.ex
  exact op_ownNe hm hne hs hf F hr b pass0
end
/-! ### the rules whose reading names the written part, that part given (within a comprehension it must be) -/
section
variable {X : Cx} {e : Expr} {f : Str} {pos : Pos} {ta : TE}
theorem ixT (K : PySem.W.Frag) (hK : X.K = K := by rfl) : IxR X (rIxT K) := by
  subst hK
  exact ix_tup
theorem ixL (K : PySem.W.Frag) (hK : X.K = K := by rfl) : IxR X (rIxL K) := by
  subst hK
  exact ix_list
theorem fldK (K : PySem.W.Frag) (he : PE X e ta) (hb : attributeBase e f X.env (eval e X.env) = eval e X.env := by rfl) (hK : X.K = K := by rfl) : PE X (.Attribute e f pos) (tFld K ta f) := by
  subst hK
  exact pe_fld he hb
def rLenK (K : PySem.W.Frag) : List V → Hp → VK → Prop := fun xs H Q => ∃ p ys, xs = [.ref p] ∧ (SqL K H p ys ∨ SqT K H p ys) ∧ Q (.int ys.length) H
theorem lenK (K : PySem.W.Frag) (hK : X.K = K := by rfl) : CallR X (.builtin "len") (rLenK K) := by
  subst hK
  exact call_len_seq
theorem isiK (K : PySem.W.Frag) (hK : X.K = K := by rfl) : CallR X (.builtin "isinstance") (rIsi K) := by
  subst hK
  exact call_isi
theorem idxK (K : PySem.W.Frag) (hu : X.A.units + 65 < cLine) (hK : X.K = K := by rfl) : MtR X "list.index" (rIndexD K) := by
  subst hK
  exact mt_indexD hu
theorem eqK (K : PySem.W.Frag) (hu : X.A.units + 64 < cLine) (hK : X.K = K := by rfl) : OpR X (compareOp .Eq) (rEqD K) := by
  subst hK
  exact op_eqD hu
end
theorem tupG {X : Cx} {es : List Expr} {k : Nat} {t : TGs} {pos : Pos} (K : PySem.W.Frag) (n : Nat) (h : PGs X es t) (hc : X.calm = true := by rfl) (hn : (assignEach es X.env).length = n := by rfl) (hst : (assignEach es X.env).findIdx? (·.1) = none := by rfl) (hK : X.K = K := by rfl) : PG X (.Tuple es k pos) (gTup K n t) := by
  subst hK
  exact pg_tup hc h hn hst
theorem bmK {X : Cx} {T id : String} {name : Str} {r : V → List V → Hp → VK → Prop} {to : TE} {t : TA} {o e : Expr} {es : List Expr} {apos cpos : Pos} (K : PySem.W.Frag) (pa : PlainAttrs T) (slot : Slot T name id) (hty : typeOf (.builtin id) = pure (.type "method_descriptor")) (hm : MtR X id r) (ho : PE X o to) (ha : PA X (e :: es) t)
    (hb : attributeBase o name X.env (eval o X.env) = eval o X.env := by rfl) (hf : ((backTo cpos (starEach (e :: es) X.env)).all (fun x => !x.1) && (backToKw cpos (keywordEach [] X.env)).all (fun x => x.1.isSome) && decide ((e :: es).length + ([] : List Keyword).length + (if ([] : List Keyword).isEmpty then 0 else 1) < 30)) = true := by rfl)
    (hl : (apos.endLine == cpos.line) = true := by rfl) (hs : starEach (e :: es) X.env = (false, eval e X.env) :: starEach es X.env := by rfl) (hp : (backTo cpos (starEach es X.env)).any (·.1) = false := by rfl) (hK : X.K = K := by rfl) :
    PE X (.Call (.Attribute o name apos) (e :: es) [] cpos) (tBM K T r to t) := by
  subst hK
  exact pe_bm pa slot hty hm ho ha hb hf hl hs hp
end Lw
namespace Lw
open PySem PySem.Spec PyProof.Rows L2
theorem catK {X : Cx} (K : PySem.W.Frag) (hK : X.K = K := by rfl) : OpR X (binaryOp .Add) (rCatA K) := by
  subst hK
  exact op_catA
/-- t + (y,) -/
theorem cat_reads {K : PySem.W.Frag} {H : Hp} {a b : Addr} {xs : List V} {y : V} {Q : VK} (ha : SqT K H a xs) (hb : SqT K H b [y]) (hz : xs.length < sizeLine) (h : ∀ (p : Addr) (H' : Hp), Same H H' → SqT K H' p (xs ++ [y]) → Q (.ref p) H') : rCatA K (.ref a) (.ref b) H Q := by
  refine ⟨a, b, xs, [y], rfl, rfl, ha, hb, by rw [List.length_singleton]; omega, fun e => ?_, fun _ e => (by cases e), fun _ _ p hp => ?_⟩
  · subst e
    exact h b H (Same.refl _) hb
  · exact h p _ (fun c o e => by rw [upd_ne (ne_of_none e hp)]; exact e) (SqT.of upd_same)
/-- both ways of an if bring an int, the rest is told once -/
theorem if_int {tt : TT} {ta tb : TE} {σ : L2.St} {H : Hp} {Q : VK} (h : ∀ z : Int, Q (.int z) H) (k : (∀ z : Int, Q (.int z) H) → tIf tt ta tb σ H Q) : tIf tt ta tb σ H Q := k h
end Lw

set_option Elab.async false
set_option linter.all false
set_option maxRecDepth 100000
set_option maxHeartbeats 4000000
/-! The head by a check of one's own, classes with properties and static defs among it. -/
namespace Lw
open PySem PySem.Spec PyProof.Rows L2
def obsC (chk : PySem.W.Frag → Bool) (fn : List He5.DefA) (K : PySem.W.Frag) : He.AlD := (chk K && fn.all fun d => d.ok K, fn.map fun d => He5.fnA K (d.at_ K))
def SaysC (chk : PySem.W.Frag → Bool) (fn : List He5.DefA) (K : PySem.W.Frag) : Prop := obsC chk fn K = He5.valA fn
def obsCG (n : Nat) (chk : PySem.W.Frag → Bool) (fn : List He5.DefA) (g : Addr → Option Obj) : He.AlD := obsC chk fn (He.frG g (He5.asA g n))
def hookC (n : Nat) (chk : PySem.W.Frag → Bool) (fn : List He5.DefA) : PySem.W.Hook where
  α := He.AlD
  obs := fun s => obsCG n chk fn s.heap.get?
  val := fun _ => He5.valA fn
  says := fun _ h => ∃ K : PySem.W.Frag, K.In h ∧ SaysC chk fn K
  of := fun _ _ e => ⟨_, He.frG_in, e⟩
  keeps := fun _ _ _ ⟨K, hK, c⟩ k => ⟨K, PySem.W.Frag.In.keeps hK k, c⟩
theorem obsCG_eq {n : Nat} {chk : PySem.W.Frag → Bool} {fn : List He5.DefA} {g : Addr → Option Obj} {s : Shared} (h : ∀ a, g a = s.heap.get? a) : obsCG n chk fn g = (hookC n chk fn).obs s := by
  have e : g = s.heap.get? := funext h
  rw [e] <;> rfl
theorem SaysC.chk {chk : PySem.W.Frag → Bool} {fn : List He5.DefA} {K : PySem.W.Frag} (c : SaysC chk fn K) : chk K = true :=
  (He.ba (show (chk K && fn.all fun d => d.ok K) = true from congrArg (fun z : He.AlD => z.1) c)).1
theorem SaysC.def_ {chk : PySem.W.Frag → Bool} {fn : List He5.DefA} {K : PySem.W.Frag} (c : SaysC chk fn K) (i : Nat) {d : He5.DefA} (h : fn[i]? = some d := by rfl) : ∃ fd, FunD K d.name d.qual d.params d.body d.scope (d.dvs K) (d.kws K) (d.at_ K) fd := by
  have c2 := (He.ba (show (chk K && fn.all fun d => d.ok K) = true from congrArg (fun z : He.AlD => z.1) c)).2
  have e : fn.map (fun d => He5.fnA K (d.at_ K)) = fn.map He5.DefA.val := congrArg (fun z : He.AlD => z.2) c
  have e2 : (fn.map fun d => He5.fnA K (d.at_ K))[i]? = (fn.map He5.DefA.val)[i]? := by rw [e]
  rw [List.getElem?_map, List.getElem?_map, h] at e2
  exact He5.DefA.funD (Option.some.inj e2) (List.all_eq_true.mp c2 d (List.mem_of_getElem? h))
section
variable {K : PySem.W.Frag} {C : Addr} {m : Str}
/-- the class has the property m -/
def propB (K : PySem.W.Frag) (C : Addr) (m : Str) : Bool := He.eqO (PySem.W.findIn K (.ref C) m) (some (some (.ref (He.ma K C m)))) && (He.eqO (PySem.W.specialIn K (.ref (He.ma K C m)) "__get__") (some (some (.builtin "property.__get__"))) &&
  (decide (PySem.W.takesIn K (.ref (He.ma K C m)) = some true) && (match PySem.W.recIn K (He.ma K C m) "property" with
    | some (.ref _ :: _) => true
    | _ => false)))
theorem propB_ok (h : propB K C m = true) : PropOf K C m (He.ma K C m) (He5.wf K C "property" m) := by
  obtain ⟨h1, h⟩ := He.ba h
  obtain ⟨h2, h⟩ := He.ba h
  obtain ⟨h3, h4⟩ := He.ba h
  refine ⟨He.eqO_ok h1, He.eqO_ok h2, of_decide_eq_true h3, ?_⟩
  unfold He5.wf
  split at h4
  · rename_i f r e
    exact ⟨r, by rw [e]⟩
  · cases h4
/-- the class has the static def m -/
def statB (K : PySem.W.Frag) (C : Addr) (m : Str) : Bool := He5.wrapB K C "staticmethod" "staticmethod.__get__" m && (PySem.W.readsIn K C (.type "type") && (PySem.W.handedIn (.ref (He5.wf K C "staticmethod" m)) &&
  (He.eqO (PySem.W.specialIn K (.ref C) "__getattribute__") (some (some (.builtin "type.__getattribute__"))) && PySem.W.keepIn K (.ref (He5.wf K C "staticmethod" m)))))
theorem statB_ok (h : statB K C m = true) : StaticOf K C m (He.ma K C m) (He5.wf K C "staticmethod" m) := by
  obtain ⟨h1, h⟩ := He.ba h
  obtain ⟨h2, h⟩ := He.ba h
  obtain ⟨h3, h⟩ := He.ba h
  obtain ⟨h4, h5⟩ := He.ba h
  obtain ⟨f1, f2⟩ := He5.wrapB_ok h1
  exact ⟨h2, f1, f2, h3, He.eqO_ok h4, h5⟩
end
end Lw

set_option Elab.async false
set_option linter.all false
set_option maxRecDepth 100000
set_option maxHeartbeats 4000000
/-! A caught exception that stays: held as a value behind its clause. -/
namespace Lw
open PySem PySem.Spec PyProof.Rows L2
/-- an exception object of a class, caught once -/
def exv (a : Addr) (cls : Value) (d : Option Addr) : HO := .ext fun h => ∃ (oe : Obj) (vs : Array Value), h.get? a = some oe ∧ Zc cls d oe ∧ oe.data = .fields vs
theorem exv_ok {P : Program} {w : World} {H : Hp} {h : Heap} {a : Addr} {cls : Value} {d : Option Addr} {oe : Obj} {vs : Array Value} (e : h.get? a = some oe) (z : Zc cls d oe) (f : oe.data = .fields vs) : ObjOk P w H h a (exv a cls d) :=
  ⟨⟨oe, vs, e, z, f⟩, ⟨oe, e⟩, fun _ _ ⟨o, v, q, r⟩ k => ⟨o, v, k o q, r⟩⟩
section
variable {X : Cx} {pins : List (Addr × Obj)} {σ : L2.St} {H : Hp} {s : Shared}
/-- an object that is there, new since the entry, is tracked from now on -/
theorem adopt {a : Addr} {o : HO} (I : Inv X pins σ H s) (n0 : X.s_0.heap.get? a = none) (na : H a = none) (new : ObjOk X.prog X.w (upd H a o) s.heap a o) (nL : a ≠ X.env.locals) (nC : ∀ x c, X.env.cells.lookup x = some c → c ≠ a) (nP : ∀ p ∈ X.pn ++ pins, p.1 ≠ a) :
    Inv X pins σ (upd H a o) s := by
  have ne0 : ∀ b ob, X.s_0.heap.get? b = some ob → b ≠ a := fun b ob e z => by rw [z, n0] at e; cases e
  refine ⟨I.ok, I.os, I.bare, ⟨I.base.keep, I.base.slot, fun b ob e n hx => ?_, I.base.there, fun b xs e => ?_, fun b ob u e => ?_, fun b ps e => ?_⟩, I.loc, I.cell, ?_, fun x c e => ?_, fun p hp => ?_, fun b u e => ?_, I.len⟩
  · rw [upd_ne (ne0 b ob e)]
    exact I.base.free b ob e n hx
  · have q := I.base.tups b xs e
    rw [upd_ne (ne_of_none q na)]
    exact q
  · have q := I.base.frzs b ob u e
    rw [upd_ne (ne_of_none q na)]
    exact q
  · obtain ⟨m, q⟩ := I.base.tbls b ps e
    exact ⟨m, by rw [upd_ne (ne_of_none q na)]; exact q⟩
  · rw [upd_ne (Ne.symm nL)]
    exact I.free
  · rw [upd_ne (nC x c e)]
    exact I.freeC x c e
  · obtain ⟨e, n, ne, nf, d⟩ := I.pin p hp
    exact ⟨e, by rw [upd_ne (nP p hp)]; exact n, ne, nf, d⟩
  · by_cases hb : b = a
    · subst hb
      rw [upd_same] at e
      cases e
      exact new
    · rw [upd_ne hb] at e
      exact (I.hok b u e).stay (fun c v _ q => q) (fun c q => by rw [upd_ne (ne_of_none q na)]; exact q) fun c xs q => by rw [upd_ne (ne_of_none q na)]; exact q
end
/-- what 'except x as n' wishes where the exception stays held -/
def wHeld (K : PySem.W.Frag) (c : Value) (i : Nat) (ts : Addr → Value → Option Addr → TS) (Wout : WX) (D : Ends) : WX := fun cls d σ H =>
  ∃ b, PySem.W.exmOne K cls c = some b ∧ (b = true → ∀ a, H a = none → ts a cls d { nx := fun σ' H' => H' a = none → D.nx (σ'.set i none) (upd H' a (exv a cls d)), rt := fun _ _ => False, bk := fun _ _ => False, ct := fun _ _ => False } (σ.set i (some (.ref a))) H) ∧ (b = false → Wout cls d σ H)
section
variable {X : Cx} {x n : Str} {c : Value} {i : Nat} {body suite : List Stmt} {b₀ : Stmt} {np pos pos' : Pos} {tb : WX → TS} {ts : Addr → Value → Option Addr → TS} {Wout : WX}
theorem ps_try_held (hs : X.stack = X.env :: X.outer) (hf : X.env.frame = some X.env.locals) (hex : X.ex = []) (hN : X.N.Nodup) (hi : X.N[i]? = some n) (hln : X.env.kindOf n = some .local) (hc : Names X x c) (tk : Takes X Wout)
    (hb : ∀ (W : WX) (pn : List (Addr × Obj)) (xe : Value → Shared → Prop), Takes (X.tr pn xe) W → PassesOwn (model X.prog X.w) X.A X.env xe → PSs (X.tr pn xe) body (tb W))
    (hsu : ∀ (a : Addr) (oe : Obj) (cls : Value) (d : Option Addr) (pn : List (Addr × Obj)), Zc cls d oe → (∃ vs, oe.data = .fields vs) → PSs (X.suite a ((a, oe) :: pn)) (b₀ :: suite) (ts a cls d)) :
    PS X (.Try body [.ExceptHandler (some (.Name x np)) (some n) (b₀ :: suite) pos'] [] [] pos) (fun D σ H => tb (wHeld X.K c i ts Wout D) D σ H) := by
  refine ⟨fun pins s σ H D I h => ?_⟩
  have ok := I.ok
  have fr : X.A.frames = some (X.env :: X.outer) := by rw [ok.frames, hs]
  have loc : Loc X.env.scope n := .inl hln
  refine wpAny_Try_except ?_
  refine wpAny_mono ((hb (wHeld X.K c i ts Wout D) (X.pn ++ pins) (fun e s₁ => wpAny (model X.prog X.w) X.A (noteFrame e X.env) (fun _ s₂ => wpAny (model X.prog X.w) X.A (setFlight e none) (fun _ s₃ =>
    wpAny (model X.prog X.w) X.A (handleBy e X.env [.ExceptHandler (some (.Name x np)) (some n) (b₀ :: suite) pos']) (SP X pins D) X.xe s₃) X.xe s₂) X.xe s₁) (fun u s' xx => ?_) PassesOwn.looking).run [] s σ H D (I.toTry _) h) (fun f s1 hsp => ?_) (fun e s1 he => he)
  · obtain ⟨a, B, sI, pins', σ', H', cls, d, rfl, J', nb, up, sky, na, os, ag, b, hb1, hyes, hno⟩ := xx
    have J : Inv X pins σ' H' sI := J'.ofTry ok
    have sky2 : Sky B (X.env :: X.outer) a (Zc cls d) X.env.locals s'.heap := by rw [← hs]; exact sky
    show wpAny (model X.prog X.w) X.A (noteFrame (.ref a) X.env) _ _ _
    refine Sky.land Zc.steady fr hf sky2 fun h3 fl3 up3 => ?_
    have J3 : Inv X pins σ' H' { s' with heap := h3 } := J.landed nb fl3.1 (up.trans up3) os ag
    obtain ⟨oe3, vs3, he3, hz3, hd3⟩ := fl3.there
    have Ba : B.get? a = none := fl3.2.1
    have nfr : a ∉ frs (X.env :: X.outer) := fun hm => by
      obtain ⟨_, o', e', hnf⟩ := fl3.2.2.1.mem hm
      rw [he3] at e'
      cases e'
      exact hnf _ hd3
    have nL : a ≠ X.env.locals := fun z => nfr (List.mem_filterMap.mpr ⟨X.env, List.mem_cons_self, by rw [hf, z]⟩)
    have nF : a ∉ X.fs := fun hm => by
      obtain ⟨e, he, q⟩ := List.mem_filterMap.mp hm
      exact nfr (List.mem_filterMap.mpr ⟨e, List.mem_cons_of_mem _ he, q⟩)
    have nfr2 : a ∉ frs X.stack := by rw [hs]; exact nfr
    have n0 : X.s_0.heap.get? a = none := by
      cases e : X.s_0.heap.get? a with
      | none => rfl
      | some o =>
        obtain ⟨o', e'⟩ := J.base.there a o e (by rw [hex]; exact fun z => nomatch z)
        have q := nb a o' e' nfr2
        rw [Ba] at q
        cases q
    have nP : ∀ p ∈ X.pn ++ pins, p.1 ≠ a := fun p hp z => by
      obtain ⟨e, _⟩ := J.pin p hp
      have q := nb p.1 p.2 e (by rw [z]; exact nfr2)
      rw [z, Ba] at q
      cases q
    have S3 := J3.suite he3 hd3 na nL nF
    refine wpAny_handleBy_cons (codeAny_handlers_test ?_) (by intro q; cases q)
    have LT : PySem.W.Looks (model X.prog X.w) h3 (typeOf (.ref a)) cls := fun A Q E s k q => wpAny_typeOf_ref (k _ _ he3) (by rw [hz3.1]; exact q)
    have LM := PySem.W.exm_one (M := model X.prog X.w) (J3.kIn) LT hb1
    have test : ∀ {Q : Value → Shared → Prop} {E : Value → Shared → Prop}, Q c { s' with heap := h3 } → wpAny (model X.prog X.w) (X.A.mark (some (.ref a))) (eval (.Name x np) X.env) Q E { s' with heap := h3 } := fun {Q E} q => by
      obtain ⟨hg, hdbg, hm | ⟨hm, hv, hnn⟩⟩ := hc
      · exact ld_glob (X := X.suite a ((a, oe3) :: (X.pn ++ pins))) S3 hg hm q hdbg
      · exact ld_blt (X := X.suite a ((a, oe3) :: (X.pn ++ pins))) S3 hg hm hv q hnn hdbg
    refine test (LM.here ?_)
    cases b with
    | true =>
      refine codeAny_handlers_suite_as ?_
      refine HandSPX.lands_againZ fl3 fun h4 fl4 up4 => ?_
      have J4 : Inv X pins σ' H' { s' with heap := h4 } := J.landed nb fl4.1 ((up.trans up3).trans up4) os ag
      obtain ⟨oe4, vs4, he4, hz4, hd4⟩ := fl4.there
      have S4 := J4.suite he4 hd4 na nL nF
      refine store_ok (X := X.suite a ((a, oe4) :: (X.pn ++ pins))) (v := .ref a) S4 hN hi loc rfl (fun s5 S5 => ?_) (.inr hln)
      refine wpAny_mono ((hsu a oe4 cls d (X.pn ++ pins) hz4 ⟨_, hd4⟩).run [] s5 _ H' _ S5 (hyes rfl a na)) (fun f s6 hsp => ?_) (fun _ _ z => False.elim z)
      cases f with
      | next =>
        obtain ⟨σ6, H6, S6, q6⟩ := hsp
        obtain ⟨p1, p2, _, _, _⟩ := S6.pin (a, oe4) (by simp)
        have J6 : Inv X pins σ6 H6 s6 := S6.unsuite ok
        have J7 : Inv X pins σ6 (upd H6 a (exv a cls d)) s6 := adopt J6 n0 p2 (exv_ok p1 hz4 hd4) nL (fun y cc e z => by
          obtain ⟨v, o, ho, hd⟩ := J6.cell y cc e
          rw [z, show s6.heap.get? a = some oe4 from p1] at ho
          cases ho
          rw [hd4] at hd
          cases hd) nP
        exact gone_ok J7 hN hi hln fun s7 J8 => ⟨_, _, J8, q6 p2⟩
      | brk =>
        obtain ⟨_, _, _, q6⟩ := hsp
        exact q6.elim
      | cont =>
        obtain ⟨_, _, _, q6⟩ := hsp
        exact q6.elim
      | ret u =>
        obtain ⟨_, _, _, _, _, q6⟩ := hsp
        exact q6.elim
    | false =>
      show wpAny _ X.A (handleBy (.ref a) X.env []) _ _ _
      refine wpAny_handleBy_nil ?_
      obtain ⟨k1, k2, k3, oe, vs, T, oT, ts', he, hz, hd, h1, hr⟩ := id fl3
      unfold PySem.passOn
      refine wpAny_bind (wpAny_field he hd h1 ?_)
      rw [if_neg (show ¬ ((Value.ref T == Value.none) = true) from by simp)]
      have fin : wpAny (model X.prog X.w) X.A (setFlight (.ref a) X.env.frame) (fun _ s4 => wpAny (model X.prog X.w) X.A (throw (.ref a) : Sem Flow) (SP X pins D) X.xe s4) X.xe { s' with heap := h3 } := by
        rw [hf]
        refine HandSPX.setFlight_upZ fl3 fun h4 hh4 up4 => wpAny_throw (tk _ _ ?_)
        exact ⟨a, B, sI, pins, σ', H', cls, d, rfl, J, nb, (up.trans up3).trans up4, .inr (.inr (by rw [hs]; exact hh4)), na, os, ag, hno rfl⟩
      first
        | exact wpAny_bind (wpAny_pure (wpAny_bind fin))
        | exact wpAny_bind fin
  · cases f with
    | next =>
      obtain ⟨σ', H', J', q⟩ := hsp
      exact wpAny_execs_nil ⟨σ', H', J'.ofTry ok, q⟩
    | brk =>
      obtain ⟨σ', H', J', q⟩ := hsp
      exact ⟨σ', H', J'.ofTry ok, q⟩
    | cont =>
      obtain ⟨σ', H', J', q⟩ := hsp
      exact ⟨σ', H', J'.ofTry ok, q⟩
    | ret u =>
      obtain ⟨v, σ', H', J', r, q⟩ := hsp
      exact ⟨v, σ', H', J'.ofTry ok, r, q⟩
end
/-! ### the held error, looked at -/
def ErrV (H : Hp) (a C : Addr) (v : V) : Prop := ∃ d, H a = some (exv a (.ref C) (some d)) ∧ H d = some (.xd [("value", v)])
theorem ErrV.same {H H' : Hp} {a C : Addr} {v : V} (h : ErrV H a C v) (s : Same H H') : ErrV H' a C v := by
  obtain ⟨d, h1, h2⟩ := h
  exact ⟨d, s _ _ h1, s _ _ h2⟩
section
variable {X : Cx} {pins : List (Addr × Obj)} {σ : L2.St} {H : Hp} {s : Shared} {a C : Addr} {v : V}
theorem errV_inst (I : Inv X pins σ H s) (h : ErrV H a C v) : ∃ ox od, PySem.W.InstAt s.heap a ox C (some od) ∧ ∃ u, PySem.W.lookIn "value" od = some (some u) ∧ RelV v u := by
  obtain ⟨d, h1, h2⟩ := h
  obtain ⟨⟨oe, vs, ho, ⟨z1, z2⟩, hf⟩, _, _⟩ := I.hok a _ h1
  obtain ⟨m, hns, r⟩ := (show ObjOk X.prog X.w H s.heap d (.xd [("value", v)]) from I.hok d _ h2)
  obtain ⟨od, hd, hl⟩ := lookIn_ns hns
  have l : List.lookup ("value" : Str) [(("value" : Str), v)] = some v := by simp [List.lookup]
  obtain ⟨u, hu, ru⟩ := RelO.some_of (v := v) (o := m "value") (by rw [← l]; exact r "value")
  refine ⟨oe, od, ⟨ho, z1, ?_, ?_⟩, u, by rw [hl, hu], ru⟩
  · unfold PySem.W.notCls
    rw [hf]
  · rw [z2]
    exact hd
end
/-- isinstance(e, C) -/
def rIsHeld (K : PySem.W.Frag) : List V → Hp → VK → Prop := fun xs H Q => ∃ (a C : Addr) (v c : V) (u : Value) (b : Bool), xs = [.ref a, c] ∧ ErrV H a C v ∧ XcC K C ∧ ClsV c u ∧ PySem.W.kitOne K (.ref C) u = some b ∧ Q (.bl b) H
theorem call_isHeld {X : Cx} (K : PySem.W.Frag) (hK : X.K = K := by rfl) : CallR X (.builtin "isinstance") (rIsHeld K) := by
  subst hK
  intro pins s σ H xs us Q I r h
  obtain ⟨a, C, v, c, u, b, rfl, he, T, k, e, q⟩ := h
  obtain ⟨u1, u2, rfl, r1, r2⟩ := vals2 r
  cases (show u1 = Value.ref a from r1)
  have e2 := k.eq r2
  subst e2
  obtain ⟨ox, od, J, _⟩ := errV_inst I he
  exact PySem.W.kia_one (PySem.W.kitx_exc T.ic T.ga T.gg T.ox.exC T.ca T.cn T.ct T.cm) I.kIn J e (fun z => nomatch z) fun tk => ⟨.bl b, H, I.tok tk, rfl, q⟩
/-- e.value -/
def tXvV (K : PySem.W.Frag) (te : TE) : TE := fun σ H Q => te σ H fun x H1 => ∃ (a C : Addr) (v : V), x = .ref a ∧ ErrV H1 a C v ∧ XcC K C ∧ Q v H1
theorem pe_xvV {X : Cx} {e : Expr} {te : TE} {pos : Pos} (K : PySem.W.Frag) (he : PE X e te) (hb : attributeBase e "value" X.env (eval e X.env) = eval e X.env := by rfl) (hK : X.K = K := by rfl) : PE X (.Attribute e "value" pos) (tXvV K te) := by
  subst hK
  refine ⟨fun pins s σ H Q I h => attr_of hb (thn (he.run pins s σ H _ I h) fun u s1 hh => ?_)⟩
  obtain ⟨x, H1, I1, rx, a, C, v, rfl, ea, T, q⟩ := hh
  cases (show u = Value.ref a from rx)
  obtain ⟨ox, od, J, z, hz, rz⟩ := errV_inst I1 ea
  exact PySem.HandSPX.exc_get I1.kIn J T.ga T.gg T.ox.exC (PySem.W.findObj_own T.hd T.nv rfl hz) (handed_of rz) ⟨v, H1, I1.tok _, rz, q⟩
theorem neK {X : Cx} (K : PySem.W.Frag) (hu : X.A.units + 64 < cLine) (hK : X.K = K := by rfl) : OpR X (compareOp .NotEq) (rNeD K) := by
  subst hK
  exact op_neD hu
/-- a def's promise, its code object known -/
theorem okGC {P : Program} {w : World} {K : PySem.W.Frag} {mg : Str → Option Value} {base : Heap} {CX : CXT} {k : Nat} {f c : Addr} {fd : FuncData} {ps N : List Str} {sp : Sp} {x qual : Str} {params : Arguments} {body : List Stmt} {scope : Scope} (F : FunD K x qual params body scope [] [] f fd) (hc : fd.code = .ref c) (S : FnScope N ps scope)
    (len : ∀ vs H Q E, sp vs H Q E → vs.length = ps.length)
    (hb : ∀ (A : Around) (outer : List Env) (s : Shared) (H : Hp) (vs : List V) (Q : VK) (E : XK), A.guards = some [] → Room k (A.deeper (envOfC qual scope s.heap.objs.size f (.ref c))) → sp vs H Q E →
      ∃ t, PSs (cxOf CX P w K mg base N qual scope f (.ref c) A outer s H E) body t ∧ t { nx := fun _ H' => Q .non H', rt := Q } (start N vs) H) : FnG P w K mg base CX (k + 1) f fd ps sp := by
  obtain ⟨oc, od, dV, kV, doc, pm, an, cdv, ct, osl, rfl, lk, hcd, _, _⟩ := F.ex
  have e : cdv = .ref c := hc
  subst e
  exact fnG_of lk hcd S len fun A outer s H vs Q E => hb A outer s H vs Q E
end Lw

set_option Elab.async false
set_option linter.all false
set_option maxRecDepth 100000
set_option maxHeartbeats 4000000
/-! Lambdas without parameters as values; a def that calls the one that it got. -/
namespace Lw
open PySem PySem.Spec PyProof.Rows L2 LamX
/-- a lambda's text -/
structure LamD where
  params : Arguments
  body : Expr
  scope : Scope
/-- a lambda of the def of the name qual, made in a frame with these cells, stands at f; its code object at c -/
def LamO (qual : Str) (cells : List (Str × Addr)) (D : LamD) (c f : Addr) : HO := .ext fun h => ∃ pm ctv : Value, h.get? f = some (PySem.W.kla_obj "<lambda>" (qual ++ "<lambda>") D.params D.body D.scope (cloFrom cells D.scope.names []) pm c ctv)
theorem lamO_ok {P : Program} {w : World} {H : Hp} {h : Heap} {qual : Str} {cells : List (Str × Addr)} {D : LamD} {c f : Addr} {pm ctv : Value} (e : h.get? f = some (PySem.W.kla_obj "<lambda>" (qual ++ "<lambda>") D.params D.body D.scope (cloFrom cells D.scope.names []) pm c ctv)) : ObjOk P w H h f (LamO qual cells D c f) :=
  ⟨⟨pm, ctv, e⟩, ⟨_, e⟩, fun _ _ ⟨p, t, q⟩ k => ⟨p, t, k _ q⟩⟩
section
variable {X : Cx} {pins : List (Addr × Obj)} {σ : L2.St} {H HZ : Hp} {s s1 : Shared}
theorem lam_make3 {T : List (Addr × Str)} {c P : Addr} {params : Arguments} {body : Expr} {scope : Scope} {pos : Pos} {E : Value → Shared → Prop} {Q : Value → Shared → Prop} (I : Inv X pins σ H s) (TB : TabB X.base X.mg c P) (hcode : X.env.code = .ref c) (hm : (P, X.env.qual ++ "<lambda>") ∈ T)
    (hu : ∀ p ∈ T, p.1 = P → p.2 = X.env.qual ++ "<lambda>") (hT : Tabs T H) (hdef : defaultsOf params X.env = ([], [])) (hfree : ∀ y ∈ scope.names, y.2 = .free → ∃ c, X.env.cells.lookup y.1 = some c)
    (h : ∀ (f c' : Addr) (pm ctv : Value) (H1 : Hp) (s' : Shared), Inv X pins σ H1 s' → ExtN H H1 → Tabs T H1 → s'.heap.get? f = some (PySem.W.kla_obj "<lambda>" (X.env.qual ++ "<lambda>") params body scope (cloFrom X.env.cells scope.names []) pm c' ctv) → H1 f = none → s.heap.objs.size ≤ f → H1 c' = some (CodeO c' (X.env.qual ++ "<lambda>")) → Q (.ref f) s') :
    wpAny (model X.prog X.w) X.A (eval (.Lambda params body scope pos) X.env) Q E s := by
  obtain ⟨ps, hP, ht, ha⟩ := hT _ hm
  refine PySem.W.kla_eval hdef ?_
  have bP : s.heap.BuiltinsAt X.mg P := TB.bm.keeps I.bk
  have hP' : s.heap.get? P = some { cls := .none, data := .fields ps } := I.hok P _ hP
  cases hc : codeAmong pos ps.toList with
  | none =>
    refine PySem.W.kla_makeFunction (mg := X.mg) (c := c) (P := P) (ps := ps) (closure_ok hfree) I.ok.glob (I.mod.glob.keeps I.bk) hcode (TB.code.keeps I.bk) hP' ht hc TB.gP bP fun c' ctv h' tk hx hge hlt hrec htb => ?_
    obtain ⟨c2, oc, vs, t, e2, hoc, hd, hv⟩ := hrec
    cases e2
    have sz : s.heap.objs.size ≤ h'.objs.size := Nat.le_trans hge (Nat.le_of_lt hlt)
    have nC : H c' = none := I.hok.fresh hge
    have I1 := inv_table (t' := tk) (more := #[rawInt pos.line, rawInt pos.col, .ref c']) (h' := h'.push (PySem.W.kla_obj "<lambda>" (X.env.qual ++ "<lambda>") params body scope (cloFrom X.env.cells scope.names []) ((X.mg "__name__").getD .none) c' ctv)) I hP (fun b o hb e => Heap.get?_push_of_some _ (hx b o hb e)) (Heap.get?_push_of_some _ htb) hge
      ⟨oc, vs, t, Heap.get?_push_of_some _ hoc, hd, hv⟩
    have hE : ExtN H (upd (upd H P (.tbl (ps ++ #[rawInt pos.line, rawInt pos.col, .ref c']))) c' (CodeO c' (X.env.qual ++ "<lambda>"))) := fun b o e n => by
      rw [upd_ne (ne_of_none e nC), upd_ne (fun z => n ps (Option.some.inj (e.symm.trans (by rw [z]; exact hP))))]
      exact e
    have eL : (ps ++ #[rawInt pos.line, rawInt pos.col, .ref c']).toList = ps.toList ++ [rawInt pos.line, rawInt pos.col, .ref c'] := by simp
    refine h h'.objs.size c' ((X.mg "__name__").getD .none) ctv _ _ I1 hE (fun p hp => ?_) (Heap.get?_push_size _ rfl) ?_ sz upd_same
    · by_cases hb : p.1 = P
      · rw [hu p hp hb, hb]
        refine ⟨_, by rw [upd_ne (ne_of_none hP nC), upd_same], by rw [eL]; exact PySem.TriplesOk_snoc _ _ _ _ ht, fun p' cv hcv => ?_⟩
        rw [eL] at hcv
        rcases among_app _ ht hcv with z | z
        · obtain ⟨c0, e1, e2⟩ := ha p' cv z
          exact ⟨c0, e1, hE _ _ e2 codeO_ne⟩
        · exact ⟨c', z, upd_same⟩
      · obtain ⟨ps', a1, a2, a3⟩ := hT p hp
        refine ⟨ps', by rw [upd_ne (ne_of_none a1 nC), upd_ne hb]; exact a1, a2, fun p' cv hcv => ?_⟩
        obtain ⟨c0, e1, e2⟩ := a3 p' cv hcv
        exact ⟨c0, e1, hE _ _ e2 codeO_ne⟩
    · have n1 : h'.objs.size ≠ c' := Nat.ne_of_gt hlt
      have n2 : h'.objs.size ≠ P := Nat.ne_of_gt (Nat.lt_of_lt_of_le (Heap.lt_size hP') sz)
      rw [upd_ne n1, upd_ne n2]
      exact I.hok.fresh sz
  | some cv =>
    obtain ⟨c', e, hco⟩ := ha pos cv hc
    subst e
    refine PySem.W.kla_makeFunctionHit (mg := X.mg) (c := c) (P := P) (ps := ps) (closure_ok hfree) I.ok.glob (I.mod.glob.keeps I.bk) hcode (TB.code.keeps I.bk) hP' ht hc bP fun ctv h' tk hx hsz => ?_
    have I1 : Inv X pins σ H { s with heap := h'.push (PySem.W.kla_obj "<lambda>" (X.env.qual ++ "<lambda>") params body scope (cloFrom X.env.cells scope.names []) ((X.mg "__name__").getD .none) c' ctv), toks := tk } := I.kept fun b o e => Heap.get?_push_of_some _ (hx b o e)
    exact h h'.objs.size c' ((X.mg "__name__").getD .none) ctv H _ I1 (ExtN.refl H) hT (Heap.get?_push_size _ rfl) (I.hok.fresh hsz) hsz hco
end
/-- lambda: .., as a value -/
def tLamV (X : Cx) (T : List (Addr × Str)) (D : LamD) : TE := fun _ H Q => Tabs T H ∧ ∀ (f c' : Addr) (H1 : Hp), ExtN H H1 → Tabs T H1 → H1 f = none → H1 c' = some (CodeO c' (X.env.qual ++ "<lambda>")) → Q (.ref f) (upd H1 f (LamO X.env.qual X.env.cells D c' f))
theorem pe_lamV {X : Cx} {T : List (Addr × Str)} {c P : Addr} {params : Arguments} {body : Expr} {scope : Scope} {pos : Pos} (TB : TabB X.base X.mg c P) (hcode : X.env.code = .ref c) (hm : (P, X.env.qual ++ "<lambda>") ∈ T) (hu : ∀ p ∈ T, p.1 = P → p.2 = X.env.qual ++ "<lambda>")
    (L : LamS X.env.scope scope) (hdef : defaultsOf params X.env = ([], [])) : PE X (.Lambda params body scope pos) (tLamV X T ⟨params, body, scope⟩) := by
  refine ⟨fun pins s σ H Q I h => lam_make3 I TB hcode hm hu h.1 hdef (L.has I.ok) fun f c' pm ctv H1 s' I1 eN T1 hf hfn hsz hco => ?_⟩
  have lt : ∀ {b : Addr} {o : Obj}, s.heap.get? b = some o → b ≠ f := fun e => Nat.ne_of_lt (Nat.lt_of_lt_of_le (Heap.lt_size e) hsz)
  have n0 : X.s_0.heap.get? f = none := by
    cases e : X.s_0.heap.get? f with
    | none => rfl
    | some o => exact absurd (Nat.lt_of_lt_of_le (Heap.lt_size e) (Nat.le_trans I.sz hsz)) (Nat.lt_irrefl _)
  refine ⟨.ref f, _, adopt I1 n0 hfn (lamO_ok hf) (Nat.ne_of_gt (Nat.lt_of_lt_of_le I.lt hsz)) (fun y cc e => ?_) (fun p hp => ?_), rfl, h.2 f c' H1 eN T1 hfn hco⟩
  · obtain ⟨v, o, ho, _⟩ := I.cell y cc e
    exact lt ho
  · exact lt (I.pin p hp).1
section
variable {X : Cx} {pins : List (Addr × Obj)} {σ : L2.St} {H HZ : Hp} {s s1 : Shared}
/-- a(), in the def that got the lambda: Z is that def's context, entered at s -/
theorem pe_act2 {CXg : CXT} {Eg : XK} {Ng : List Str} {qg : Str} {sg : Scope} {g f : Addr} {cdg : Value} {n : Nat} {fam : Nat → LamD} {t : Nat → XK → TE} {k i : Nat} {a : Str} {pn : List (Addr × Obj)} {xe : Value → Shared → Prop} {W : WX} {p1 p2 : Pos} (I : Inv X pins σ H s)
    (L : ∀ j, j < n → LamS X.env.scope (fam j).scope) (hbind : ∀ j, j < n → ∀ (q : Str) (cl : List (Str × Addr)) (pm cv ctv : Value), bindArgs (PySem.W.kla_fn "<lambda>" q (fam j).params (fam j).body (fam j).scope cl pm cv ctv) ⟨[], []⟩ = pure [])
    (tk : Takes ((cxOf CXg X.prog X.w X.K X.mg X.base Ng qg sg g cdg X.A X.stack s H Eg).tr pn xe) W) (hr : Room (k + 1) (X.A.deeper (envOfC qg sg s.heap.objs.size g cdg)))
    (hbody : ∀ j, j < n → ∀ (A : Around) (outer : List Env) (s : Shared) (H : Hp) (E : XK) (c' : Addr), Room k (A.deeper (lamEnv X (fam j).scope s.heap.objs.size f c')) → PE (lamCx X A outer s H E (fam j).scope f c') (fam j).body (t j E))
    (hN : Ng[i]? = some a) (hv : Vis sg a) (hd : (a == ("__debug__" : Str)) = false := by decide) (hcd : (a == ("__classdict__" : Str)) = false := by decide) :
    PE ((cxOf CXg X.prog X.w X.K X.mg X.base Ng qg sg g cdg X.A X.stack s H Eg).tr pn xe) (.Call (.Name a p1) [] [] p2)
      (fun σZ HZ Q => σZ[i]? = some (some (.ref f)) ∧ ∃ (j : Nat) (c' : Addr) (E : XK), j < n ∧ HZ f = some (LamO X.env.qual X.env.cells (fam j) c' f) ∧ HZ c' = some (CodeO c' (X.env.qual ++ "<lambda>")) ∧ (∀ cls d H', E cls d H' → W cls d σZ H') ∧ t j E σ HZ Q) := by
  refine ⟨fun pinsZ sZ σZ HZ Q IZ h => ?_⟩
  obtain ⟨hs, j, c', E, hj, hL, hc, hW, ht⟩ := h
  refine wpAny_Call_Name_kw (thn ((pe_var (pos := p1) (i := i) hN hv hd hcd).run pinsZ sZ σZ HZ (fun v H1 => v = .ref f ∧ H1 = HZ) IZ ⟨.ref f, hs, rfl, rfl⟩) fun u s1 hh => ?_)
  obtain ⟨v, H1, I1, r1, ev, eH⟩ := hh
  subst ev
  rw [eH] at I1
  obtain rfl : u = Value.ref f := r1
  obtain ⟨⟨pm, ctv, of1⟩, _, _⟩ := I1.hok f _ hL
  refine PySem.W.callWith_F0 ⟨_, _, _, _, of1⟩ ?_
  have un : Un (frs X.stack) [] H HZ s.heap s1.heap := I1.base
  obtain ⟨⟨oc, vs, tt, hoc, hdc, hvc⟩, _, _⟩ := I1.hok c' _ hc
  have rc : codeAny (model X.prog X.w) (X.A.deeper (envOfC qg sg s.heap.objs.size g cdg)) (.call (.ref f) ⟨[], []⟩) (CR (L2.CX X.prog X.w) (envOfC qg sg s.heap.objs.size g cdg :: X.stack) X.prog X.w HZ s1 Q E) s1 := by
    refine PySem.W.kla_callFunE hr.depth of1 rfl (L j hj).co (L j hj).gen rfl ⟨c', oc, vs, tt, rfl, hoc, hdc, hvc⟩ ?_
    rw [hbind j hj]
    refine wpAny_pure (wpAny_newFunctionEnv (fun y hy => ((L j hj).own y hy).2) (fun y hy => absurd hy (by simp)) (fun h₁ hns hsb => ⟨I1.nolimit.fresh _ hsb, ?_⟩) (L j hj).kind)
    show codeAny _ _ (.expr (fam j).body (lamEnv X (fam j).scope s1.heap.objs.size f c')) _ _
    have kp : ∀ b o, s1.heap.get? b = some o → h₁.get? b = some o := fun b o e => hsb.extBut b o (Nat.ne_of_lt (Heap.lt_size e)) (Heap.get?_push_of_some _ e)
    have J : Inv (lamCx X (X.A.deeper (envOfC qg sg s.heap.objs.size g cdg)) (envOfC qg sg s.heap.objs.size g cdg :: X.stack) s1 HZ E (fam j).scope f c') [] σ HZ { s1 with heap := h₁, toks := s1.toks + ([] : List (Str × Value)).length } :=
      lam_start2 I (L j hj) I1.env0 hr.hd un hns kp
    refine PySem.W.kla_codeExpr (wpAny_mono ((hbody j hj _ _ s1 HZ E c' (hr.deeper _)).run [] _ _ HZ Q J ht) (fun v s' hq => ?_) fun e s' hq => hq)
    obtain ⟨w', H', J', rv, q⟩ := hq
    exact ⟨w', H', J'.os, J'.bare, J'.base, J'.hok, rv, q⟩
  refine wpAny_call (codeAny_mono rc fun r s' hq => ?_)
  cases r with
  | error e => exact tk e s' (XE.of_call I1 (fun cls d H' h => hW cls d H' h) hq)
  | ok fl =>
    cases fl with
    | ret u => exact I1.after hq
    | next => exact False.elim hq
    | brk => exact False.elim hq
    | cont => exact False.elim hq
end
/-- the def that calls what it got: a calls it; TT: what it makes of the lambda's reading -/
def Calls2 (X : Cx) (Ng : List Str) (x : Str) (sg : Scope) (g : Addr) (cdg : Value) (bg : List Stmt) (a : Str) (TT : (XK → Hp → VK → Prop) → Hp → VK → Prop) : Prop :=
  ∀ (f : Addr) (s : Shared) (H : Hp) (Q : VK) (tl : XK → Hp → VK → Prop),
    (∀ (W : WX) (pn : List (Addr × Obj)) (xe : Value → Shared → Prop) (p1 p2 : Pos), Takes ((cxOf CX0 X.prog X.w X.K X.mg X.base Ng x sg g cdg X.A X.stack s H E0).tr pn xe) W →
      PE ((cxOf CX0 X.prog X.w X.K X.mg X.base Ng x sg g cdg X.A X.stack s H E0).tr pn xe) (.Call (.Name a p1) [] [] p2) (fun σZ HZ Q => σZ[0]? = some (some (.ref f)) ∧ Same H HZ ∧ ∃ E, (∀ cls d H', E cls d H' → W cls d σZ H') ∧ tl E HZ Q)) →
    TT tl H Q → ∃ t, PSs (cxOf CX0 X.prog X.w X.K X.mg X.base Ng x sg g cdg X.A X.stack s H E0).nox bg t ∧ t { nx := fun _ H' => Q .non H', rt := Q } (L2.start Ng [.ref f]) H
/-- x(e), e one of these lambdas -/
def tTold (X : Cx) (n : Nat) (fam : Nat → LamD) (t : Nat → XK → TE) (TT : (XK → Hp → VK → Prop) → Hp → VK → Prop) (te : TE) : TE := fun σ H Q => te σ H fun v H1 => ∃ (f c' : Addr) (j : Nat), v = .ref f ∧ j < n ∧ H1 f = some (LamO X.env.qual X.env.cells (fam j) c' f) ∧ H1 c' = some (CodeO c' (X.env.qual ++ "<lambda>")) ∧
  TT (fun E H' Q' => t j E σ H' Q') H1 Q
theorem pe_told {X : Cx} {TT : (XK → Hp → VK → Prop) → Hp → VK → Prop} {x a : Str} {g : Addr} {k n : Nat} {pg : Arguments} {bg : List Stmt} {sg : Scope} {fd : FuncData} {Ng : List Str} {fam : Nat → LamD} {t : Nat → XK → TE} {e : Expr} {te : TE} {p pos : Pos} (hg : Gl X x) (hm : X.mg x = some (.ref g))
    (F : FunD X.K x x pg bg sg [] [] g fd) (hb : Binds X.K fd [a] []) (Sg : FnScope Ng [a] sg) (hNg : Ng[0]? = some a) (hva : Vis sg a) (hG : ∀ cdg : Value, Calls2 X Ng x sg g cdg bg a TT) (hr : Room (k + 2) X.A) (L : ∀ j, j < n → LamS X.env.scope (fam j).scope)
    (hbind : ∀ j, j < n → ∀ (q : Str) (cl : List (Str × Addr)) (pm cv ctv : Value), bindArgs (PySem.W.kla_fn "<lambda>" q (fam j).params (fam j).body (fam j).scope cl pm cv ctv) ⟨[], []⟩ = pure [])
    (hbody : ∀ j, j < n → ∀ (A : Around) (outer : List Env) (s : Shared) (H : Hp) (E : XK) (f c' : Addr), Room k (A.deeper (lamEnv X (fam j).scope s.heap.objs.size f c')) → PE (lamCx X A outer s H E (fam j).scope f c') (fam j).body (t j E)) (he : PE X e te)
    (hs : starEach [e] X.env = (false, eval e X.env) :: starEach [] X.env := by rfl) (hdb : (x == ("__debug__" : Str)) = false := by decide) (hd : (a == ("__debug__" : Str)) = false := by decide) (hcd : (a == ("__classdict__" : Str)) = false := by decide) :
    PE X (.Call (.Name x p) [e] [] pos) (tTold X n fam t TT te) := by
  refine ⟨fun pins s σ H Q I h => ?_⟩
  refine wpAny_Call_Name_kw (ld_glob I hg hm ?_ hdb)
  refine PySem.W.callWith_K (h₀ := X.base) I.ok.mod.kin F.kp ?_ hs (by rfl)
  rw [hs]
  show wpAny _ _ (spliced ((false, eval e X.env) :: backTo pos (starEach [] X.env))) _ _ s
  refine Calls.spliced_cons (thn (he.run pins s σ H _ I h) fun u s' hh => ?_)
  obtain ⟨v, H1, I1, rv, f, c', j, rfl, hj, hL, hc, hT⟩ := hh
  cases (show u = Value.ref f from rv)
  refine Calls.spliced_nil ⟨I1.kIn, ?_⟩
  obtain ⟨oc, od, dV, kV, doc, pm, an, cdv, ct, osl, rfl, lk, hcd2, _, _⟩ := F.ex
  have rc : codeAny (model X.prog X.w) X.A (.call (.ref g) ⟨[.ref f], []⟩) (CR CX0 X.stack X.prog X.w H1 s' Q E0) s' := by
    refine LamX.run_ofS (N := Ng) (ps := [a]) (us := [.ref f]) (vs := [.ref f]) lk hcd2 Sg hr I1.env0 (hb s' [.ref f] I1.kIn rfl) (.cons rfl .nil) rfl fun hr' => ?_
    have act : ∀ (W : WX) (pn : List (Addr × Obj)) (xe : Value → Shared → Prop) (p1 p2 : Pos), Takes ((cxOf CX0 X.prog X.w X.K X.mg X.base Ng x sg g cdv X.A X.stack s' H1 E0).tr pn xe) W →
        PE ((cxOf CX0 X.prog X.w X.K X.mg X.base Ng x sg g cdv X.A X.stack s' H1 E0).tr pn xe) (.Call (.Name a p1) [] [] p2) (fun σZ HZ Q => σZ[0]? = some (some (.ref f)) ∧ Same H1 HZ ∧ ∃ E, (∀ cls d H', E cls d H' → W cls d σZ H') ∧ t j E σ HZ Q) := by
      intro W pn xe p1 p2 tk
      refine ⟨fun pinsZ sZ σZ HZ Q2 IZ h2 => ?_⟩
      obtain ⟨h3, sm, E, h4, h5⟩ := h2
      exact (pe_act2 (i := 0) (p1 := p1) (p2 := p2) I1 L hbind tk hr' (fun j hj A outer s H E c' hr2 => hbody j hj A outer s H E f c' hr2) hNg hva hd hcd).run pinsZ sZ σZ _ Q2 IZ ⟨h3, j, c', E, hj, sm _ _ hL, sm _ _ hc, h4, h5⟩
    obtain ⟨t', ht', hq'⟩ := hG cdv f s' H1 Q (fun E H' Q' => t j E σ H' Q') act hT
    exact ⟨t', ht'.nox, hq'⟩
  refine wpAny_call (codeAny_mono rc fun r s2 hq => ?_)
  cases r with
  | error e => exact (show False from hq).elim
  | ok fl =>
    cases fl with
    | ret u => exact I1.after hq
    | next => exact False.elim hq
    | brk => exact False.elim hq
    | cont => exact False.elim hq
end Lw

set_option Elab.async false
set_option linter.all false
set_option maxRecDepth 100000
set_option maxHeartbeats 4000000
/-! A law whose defs make lambdas: the tables of code objects, empty when the law is entered. -/
namespace Lw
open PySem PySem.Spec PyProof.Rows L2 LamX
/-- what is tracked when the law is entered: the script (or nothing) at a, the tables -/
def trk (a : Addr) (sc : Option HO) (ts : List Addr) : Hp := fun b => if b = a then sc else if b ∈ ts then some (.tbl #[]) else none
theorem trk_a {a : Addr} {sc : Option HO} {ts : List Addr} : trk a sc ts a = sc := if_pos rfl
theorem trk_t {a : Addr} {sc : Option HO} {ts : List Addr} {b : Addr} (n : b ≠ a) (h : b ∈ ts) : trk a sc ts b = some (.tbl #[]) := (if_neg n).trans (if_pos h)
theorem trk_o {a : Addr} {sc : Option HO} {ts : List Addr} {b : Addr} (n : b ≠ a) (h : b ∉ ts) : trk a sc ts b = none := (if_neg n).trans (if_neg h)
/-- the law's own call -/
theorem lawG_callT {P : Program} {w : World} {K : PySem.W.Frag} {mg mb : Str → Option Value} {CX : CXT} {k : Nat} {fa a : Addr} {cs : List (Addr × Addr)} {fd : FuncData} {x : Str} {sp : Sp} {s₁ : Shared} {vs : List Value} {ns : List Int}
    (KX : K.In s₁.heap) (hns : s₁.heap.Ns mainGlobals mg) (hb : s₁.heap.Ns builtinsNs mb) (hbb : ∀ x : Str, x ≠ "__name__" → mb x = bootBuiltins x) (hlim : s₁.heap.NoLimit) (hg : s₁.gens = #[])
    (hT : ∀ p ∈ cs, s₁.heap.get? p.2 = some { cls := .none, data := .fields #[] }) (nT : ∀ p ∈ cs, K.lookup p.2 = none) (hC : ∀ p ∈ cs, PySem.W.codeHdIn K p.1 p.2 = true)
    (hbm : ∃ (bm : Addr) (ob : Obj), mg "__builtins__" = some (.ref bm) ∧ bm ≠ builtinsNs ∧ s₁.heap.get? bm = some ob ∧ ob.cls = .type "module" ∧ ob.dict = some builtinsNs ∧ ob.data = .plain)
    (ha : s₁.heap.get? a = some { cls := .type "list", data := .seq vs.toArray }) (hi : IntsAre vs ns) (hl : ns.length ≤ sizeLine) (hr : Room k callerA)
    (F : ∀ base : Heap, K.In base → base.Ns mainGlobals mg → (∀ p ∈ cs, TabB base mg p.1 p.2) → FnG P w K mg base CX k fa fd [x] sp) (hbind : ∀ (s : Shared) (u : Value), BindsTo s fd ⟨[u], []⟩ [(x, u)])
    (hsp : ∀ H : Hp, (∀ p ∈ cs, H p.2 = some (.tbl #[])) → SqL K H a (ns.map V.int) → sp [.ref a] H (fun v _ => v = .bl true) fun _ _ _ => False) (hCX : ∀ H e s', CX [] H s₁ (fun _ _ _ => False) e s' → False) :
    codeAny (model P w) callerA (.call (.ref fa) ⟨[.ref a], []⟩) (fun r s' => r = .ok (.ret (.bool true)) ∧ OldK s₁.heap s'.heap ∧ s'.os = s₁.os ∧ AllBare s'.gens) s₁ := by
  have inT : ∀ {b : Addr}, b ∈ cs.map (·.2) → ∃ p ∈ cs, p.2 = b := fun h => List.mem_map.mp h
  have tObj : ∀ {b : Addr}, b ∈ cs.map (·.2) → s₁.heap.get? b = some { cls := .none, data := .fields #[] } := fun h => by
    obtain ⟨p, hp, rfl⟩ := inT h
    exact hT p hp
  have aT : a ∉ cs.map (·.2) := fun z => by
    have e := tObj z
    rw [ha] at e
    cases e
  have pa : ∀ p ∈ cs, p.2 ≠ a ∧ p.2 ∈ cs.map (·.2) := fun p hp => ⟨fun z => aT (by rw [← z]; exact List.mem_map_of_mem hp), List.mem_map_of_mem hp⟩
  have rv : Vals (ns.map V.int) vs := vals_ints hi
  have len := hi.length
  have go : ∀ sc : Option HO, (sc = none ∨ ∃ ob xs, sc = some (.frz ob (.lst xs))) → (sc ≠ none → K.lookup a = none) → SqL K (trk a sc (cs.map (·.2))) a (ns.map V.int) → (∀ o, sc = some o → ObjOk P w (trk a sc (cs.map (·.2))) s₁.heap a o) →
      codeAny (model P w) callerA (.call (.ref fa) ⟨[.ref a], []⟩) (fun r s' => r = .ok (.ret (.bool true)) ∧ OldK s₁.heap s'.heap ∧ s'.os = s₁.os ∧ AllBare s'.gens) s₁ := by
    intro sc hsc noK sq okA
    have hok : HOk P w (trk a sc (cs.map (·.2))) s₁.heap := fun b o e => by
      by_cases hba : b = a
      · subst hba
        exact okA o (trk_a.symm.trans e)
      · by_cases hbt : b ∈ cs.map (·.2)
        · cases (trk_t hba hbt).symm.trans e
          exact tObj hbt
        · cases (trk_o hba hbt).symm.trans e
    -- what is neither a list nor an empty table is hidden from nobody
    have shown : ∀ {b : Addr} {o : Obj}, s₁.heap.get? b = some o → (∀ xs n, o.data ≠ .seq xs n) → o.data ≠ .fields #[] → (hidT s₁.heap (trk a sc (cs.map (·.2)))).get? b = some o := fun {b o} e h1 h2 => hidT_get e (by
      refine trk_o (fun z => ?_) fun z => ?_
      · rw [z, ha] at e
        cases e
        exact h1 _ _ rfl
      · rw [tObj z] at e
        cases e
        exact h2 rfl)
    have kns : ∀ {b : Addr} {m : Str → Option Value}, s₁.heap.Ns b m → (hidT s₁.heap (trk a sc (cs.map (·.2)))).Ns b m := by
      rintro b m ⟨o, es, ep, z, d, r⟩
      exact ⟨o, es, ep, shown z (fun xs n y => by rw [d] at y; cases y) (fun y => by rw [d] at y; cases y), d, r⟩
    have kin : K.In (hidT s₁.heap (trk a sc (cs.map (·.2)))) := fun b o e => by
      refine hidT_get (KX b o e) ?_
      by_cases hba : b = a
      · subst hba
        rw [trk_a]
        rcases hsc with h | ⟨ob, xs, h⟩
        · exact h
        · rw [noK (by rw [h]; exact fun z => by cases z)] at e
          cases e
      · refine trk_o hba fun z => ?_
        obtain ⟨p, hp, rfl⟩ := inT z
        rw [nT p hp] at e
        cases e
    obtain ⟨mc, l1, l2⟩ := hlim
    have TB : ∀ p ∈ cs, TabB (hidT s₁.heap (trk a sc (cs.map (·.2)))) mg p.1 p.2 := fun p hp => by
      obtain ⟨bm, ob, b1, b2, b3, b4, b5, b6⟩ := hbm
      have nsd : ∀ {b : Addr} {m : Str → Option Value}, s₁.heap.Ns b m → ∃ o es ep, s₁.heap.get? b = some o ∧ o.data = .dict es ep := fun ⟨o, es, ep, e, d, _⟩ => ⟨o, es, ep, e, d⟩
      refine ⟨PySem.W.codeHd_of_K kin (hC p hp), ⟨bm, ob, b1, b2, fun z => ?_, fun z => ?_, shown b3 (fun xs n y => by rw [b6] at y; cases y) (fun y => by rw [b6] at y; cases y), b4, b5, b6⟩, fun z => ?_⟩
      · obtain ⟨o, es, ep, e, d⟩ := nsd hns
        rw [z, e] at b3
        cases b3
        rw [d] at b6
        cases b6
      · rw [z, hT p hp] at b3
        cases b3
        cases b6
      · obtain ⟨o, es, ep, e, d⟩ := nsd hns
        rw [z, hT p hp] at e
        cases e
        cases d
    have e0 : Env0 P w K mg (hidT s₁.heap (trk a sc (cs.map (·.2)))) callerA [] s₁ (trk a sc (cs.map (·.2))) :=
      { frames := rfl, mod := { kin := kin, glob := kns hns, blt := ⟨mb, kns hb, hbb⟩, nolimit := ⟨mc, kns l1, l2⟩ }, bs := fun _ _ z => of_hidT z, bsz := Nat.le_of_eq (hidT_size _ _), funs := trivial, frf := fun b z => (by cases (show b ∈ ([] : List Addr) from z)), hok := hok, bare := .of_eq hg }
    refine codeAny_mono ((F _ kin (kns hns) TB).run callerA [] s₁ _ ⟨[.ref a], []⟩ [.ref a] [.ref a] _ _ rfl hr e0 (hbind s₁ (.ref a)) (.cons rfl .nil) (hsp _ (fun p hp => trk_t (pa p hp).1 (pa p hp).2) sq)) ?_
    intro r s' h
    match r, h with
    | .error e, h => exact (hCX _ e s' h).elim
    | .ok .next, h => exact h.elim
    | .ok .brk, h => exact h.elim
    | .ok .cont, h => exact h.elim
    | .ok (.ret u), ⟨v, H', os, bare, un, hok', r', q⟩ =>
      cases (show v = V.bl true from q)
      cases (show u = Value.bool true from r')
      have kept : ∀ b o, b ∉ cs.map (·.2) → s₁.heap.get? b = some o → s'.heap.get? b = some o := fun b o nb z => by
        by_cases hba : b = a
        · subst hba
          rcases hsc with h | ⟨ob, xs, h⟩
          · exact un.keep b o z (trk_a.trans h) (fun y => by cases (show b ∈ ([] : List Addr) from y)) (by simp)
          · have n : trk b sc (cs.map (·.2)) b = some (.frz ob (.lst xs)) := trk_a.trans h
            obtain ⟨e1, _⟩ := hok b _ n
            obtain ⟨e2, _⟩ := hok' b _ (un.frzs b ob _ n)
            rw [z] at e1
            cases e1
            exact e2
        · exact un.keep b o z (trk_o hba nb) (fun y => by cases (show b ∈ ([] : List Addr) from y)) (by simp)
      have grew : ∀ p ∈ cs, ∃ more : Array Value, s'.heap.get? p.2 = some { cls := .none, data := .fields (#[] ++ more) } := fun p hp => by
        obtain ⟨more, z⟩ := un.tbls p.2 #[] (trk_t (pa p hp).1 (pa p hp).2)
        exact ⟨more, hok' p.2 _ z⟩
      refine ⟨rfl, ⟨fun b o z => ?_, fun b o z => ?_⟩, os, bare⟩
      · by_cases hbt : b ∈ cs.map (·.2)
        · obtain ⟨p, hp, rfl⟩ := inT hbt
          obtain ⟨more, e⟩ := grew p hp
          have e2 := hT p hp
          rw [z] at e2
          cases e2
          exact .inr (.inl ⟨((PySem.W.codeHd_of_K KX (hC p hp)).tab z).isCodeTable, rfl, #[], more, rfl, e⟩)
        · exact .inl (kept b o hbt z)
      · by_cases hbt : b ∈ cs.map (·.2)
        · obtain ⟨p, hp, rfl⟩ := inT hbt
          obtain ⟨more, e⟩ := grew p hp
          exact ⟨_, e⟩
        · exact ⟨_, kept b o hbt z⟩
  rcases hk : K.lookup a with _ | o
  · refine go (some (.frz { cls := .type "list", data := .seq vs.toArray } (.lst (ns.map V.int)))) (.inr ⟨_, _, rfl⟩) (fun _ => hk) (.inl (.inr ⟨_, trk_a⟩)) fun o e => ?_
    cases e
    exact ⟨ha, by rw [List.length_map]; exact hl, vs, _, rv, ha⟩
  · have e := KX a o hk
    rw [ha] at e
    cases e
    exact go none (.inl rfl) (fun z => (z rfl).elim) (.inr ⟨_, vs.toArray, _, hk, rfl, rfl, rfl, by rw [List.size_toArray, len]; exact hl, by simpa using rv⟩) fun o e => by cases e
theorem walkGT {l : PySem.W.OpenLaw} {n k : Nat} {q : Program} {loose : List Str} {XP : (Str → Option Value) → Heap → Prop} {YP : World → Heap → Prop} {d : DefRec} {CX : CXT} {x : Str}
    (hn : l.most = some n) (hn2 : n ≤ sizeLine) (hdf : d.params.defaults = []) (hr : Room k callerA)
    (F : ∀ (w : World) (mg : Str → Option Value) (fa : Addr) (h : Heap), YP w h → h.Ns mainGlobals mg → mg d.name = some (.ref fa) →
      ∃ (K : PySem.W.Frag) (cs : List (Addr × Addr)) (fd : FuncData) (sp : Sp), K.In h ∧ (∀ p ∈ cs, h.get? p.2 = some { cls := .none, data := .fields #[] }) ∧ (∀ p ∈ cs, K.lookup p.2 = none) ∧ (∀ p ∈ cs, PySem.W.codeHdIn K p.1 p.2 = true) ∧
        (∀ (s : Shared) (u : Value), BindsTo s fd ⟨[u], []⟩ [(x, u)]) ∧
        (∀ (H : Hp) (a : Addr) (ns : List Int), ns.length ≤ n → (∀ p ∈ cs, H p.2 = some (.tbl #[])) → SqL K H a (ns.map V.int) → sp [.ref a] H (fun v _ => v = .bl true) fun _ _ _ => False) ∧
        ∀ base : Heap, K.In base → base.Ns mainGlobals mg → (∀ p ∈ cs, TabB base mg p.1 p.2) → FnG l.prog w K mg base CX k fa fd [x] sp)
    (hCX : ∀ (H : Hp) (s : Shared) (e : Value) (s' : Shared), CX [] H s (fun _ _ _ => False) e s' → False) : PySem.W.WalkO q loose XP YP l.row.toRowW d [] (fun f vs => PySem.call f vs) := by
  refine Att.attach_call hn hdf fun w s₀ s₁ mg mb fa o pm cd doc a vs ns G Y ho hd hcd hmg hobj hints hlen hg => ?_
  obtain ⟨K, cs, fd, sp, kin, hT, nT, hC, bind, want, prom⟩ := F w mg fa _ Y G.T.g hmg
  exact lawG_callT kin G.T.g G.T.b G.T.builtins G.T.nolimit hg hT nT hC G.T.bmain hobj hints (Nat.le_trans hlen hn2) hr prom bind (fun H o S => want H a ns hlen o S) fun H e s' => hCX H s₁ e s'
/-! ### the head, tables left out of the written part -/
/-- a def's code object and the table of the code objects made in it -/
abbrev tabC (K : PySem.W.Frag) (x : Str) : Addr × Addr := He.cT K (x, none)
def obsCT (n : Nat) (chk : PySem.W.Frag → Bool) (fn : List He5.DefA) (tf : List He.Defn) (g : Addr → Option Obj) : He.AlX := ((obsC chk fn (He.frT g (He5.asA g n)), []), He.tabsB g tf (He.frT g (He5.asA g n)))
structure SaysCT (chk : PySem.W.Frag → Bool) (fn : List He5.DefA) (tf : List He.Defn) (h : Heap) (K : PySem.W.Frag) : Prop where
  c : SaysC chk fn K
  hd : ∀ p ∈ tf, PySem.W.codeHdIn K (He.cT K p).1 (He.cT K p).2 = true
  out : ∀ p ∈ tf, K.lookup (He.cT K p).2 = none
  empty : ∀ p ∈ tf, h.get? (He.cT K p).2 = some { cls := .none, data := .fields #[] }
theorem saysCT_of {n : Nat} {chk : PySem.W.Frag → Bool} {fn : List He5.DefA} {tf : List He.Defn} {h : Heap} (e : obsCT n chk fn tf h.get? = ((He5.valA fn, []), true)) : SaysCT chk fn tf h (He.frT h.get? (He5.asA h.get? n)) := by
  have e1 : obsC chk fn (He.frT h.get? (He5.asA h.get? n)) = He5.valA fn := congrArg (fun z : He.AlX => z.1.1) e
  have e2 : He.tabsB h.get? tf (He.frT h.get? (He5.asA h.get? n)) = true := congrArg (fun z : He.AlX => z.2) e
  have key : ∀ p ∈ tf, PySem.W.codeHdIn (He.frT h.get? (He5.asA h.get? n)) (He.cT (He.frT h.get? (He5.asA h.get? n)) p).1 (He.cT (He.frT h.get? (He5.asA h.get? n)) p).2 = true ∧ ∃ o, h.get? (He.cT (He.frT h.get? (He5.asA h.get? n)) p).2 = some o ∧ He.emptyTab o = true := fun p hp => by
    obtain ⟨h1, h2⟩ := He.ba (List.all_eq_true.mp e2 p hp)
    refine ⟨h1, ?_⟩
    revert h2
    rcases h.get? (He.cT (He.frT h.get? (He5.asA h.get? n)) p).2 with _ | o
    · exact fun z => by cases z
    · exact fun z => ⟨o, rfl, z⟩
  refine ⟨e1, fun p hp => (key p hp).1, fun p hp => ?_, fun p hp => ?_⟩
  · obtain ⟨_, o, q, z⟩ := key p hp
    exact He.frT_none q z
  · obtain ⟨_, o, q, z⟩ := key p hp
    rw [q, He.emptyTab_eq z]
def hookCT (n : Nat) (chk : PySem.W.Frag → Bool) (fn : List He5.DefA) (tf : List He.Defn) : PySem.W.Hook where
  α := He.AlX
  obs := fun s => obsCT n chk fn tf s.heap.get?
  val := fun _ => ((He5.valA fn, []), true)
  says := fun _ h => ∃ K : PySem.W.Frag, K.In h ∧ SaysCT chk fn tf h K
  of := fun _ _ e => ⟨_, He.frT_in, saysCT_of e⟩
  keeps := fun _ _ _ ⟨K, hK, c⟩ k => ⟨K, PySem.W.Frag.In.keeps hK k, ⟨c.c, c.hd, c.out, fun p hp => k _ _ (c.empty p hp)⟩⟩
theorem obsCT_eq {n : Nat} {chk : PySem.W.Frag → Bool} {fn : List He5.DefA} {tf : List He.Defn} {g : Addr → Option Obj} {s : Shared} (h : ∀ a, g a = s.heap.get? a) : obsCT n chk fn tf g = (hookCT n chk fn tf).obs s := by
  have e : g = s.heap.get? := funext h
  rw [e] <;> rfl
end Lw

set_option Elab.async false
set_option linter.all false
set_option maxRecDepth 100000
set_option maxHeartbeats 4000000
namespace K02
open PySem PySem.Spec PyProof.Rows L2 Lw
def top (i : Nat) : Stmt := PySem.Challenge.pw_landingwires_k02_standings_put_together.main.body.getD i (.Pass ⟨0, 0, 0, 0⟩)
abbrev FnP (K : PySem.W.Frag) (x qual : Str) (st : Stmt) (f : Addr) (fd : FuncData) : Prop := FunD K x qual (defArgs st) (defBody st) (defScope st) [] [] f fd
abbrev ga := He.ga
abbrev ma := He.ma
abbrev cS (K : PySem.W.Frag) : Addr := ga K "Standing"
def frees : List Str := ["isinstance", "int", "bool", "tuple", "len", "all", "enumerate", "min", "max", "range", "list", "zip", "abs", "sorted", "set", "dict", "repr"]
def globals : List Str := ["is_int", "are_marks", "check_wires", "merged", "_law_pot", "_law_take", "_law_of", "_law_cells", "_law_merged", "_law_marks", "_law_told", "_law_drawn_marks", "_law_joined_marks", "_law_common_marks", "_law_lie_within", "_law_is_pair_right", "_law_are_apart_right", "_law_right", "law"]
/-- what the written part is asked for -/
structure Txt (K : PySem.W.Frag) (mg : Str → Option Value) : Prop where
  free : ∀ x ∈ frees, mg x = none
  gl : ∀ x ∈ globals, mg x = some (.ref (ga K x))
  gS : mg "Standing" = some (.ref (cS K))
  nums : ∀ (x : Str) (i : Int), (x, i) ∈ [(("LEAST_WIRES" : Str), (1 : Int)), ("MOST_WIRES", 4)] → ∃ t, mg x = some (.int i t)
  cls : Cls K (cS K)
  nof : NoAttr K (cS K) "_marks"
  mkr : Mk K (cS K) (ma K (cS K) "__init__")
  pMarks : PropOf K (cS K) "marks" (ma K (cS K) "marks") (He5.wf K (cS K) "property" "marks")
  pWires : PropOf K (cS K) "wires" (ma K (cS K) "wires") (He5.wf K (cS K) "property" "wires")
  gW : mg "WireError" = some (.ref (ga K "WireError"))
  gO : mg "OtherWires" = some (.ref (ga K "OtherWires"))
  ox : XcC K (ga K "OtherWires")
  oxI : PySem.W.findIn K (.ref (ga K "OtherWires")) "__init__" = some (some (.ref (ma K (ga K "WireError") "__init__")))
  oxT : PySem.W.typeIn K (.ref (ma K (ga K "WireError") "__init__")) = some (.type "function")
  oxK : PySem.W.kitOne K (.ref (ga K "OtherWires")) (.ref (ga K "OtherWires")) = some true
  oxM : PySem.W.exmOne K (.ref (ga K "OtherWires")) (.ref (ga K "WireError")) = some true
  at_ : ∀ m ∈ (["within", "__contains__", "__or__", "__and__", "__eq__"] : List Str), PySem.W.findIn K (.ref (cS K)) m = some (some (.ref (ma K (cS K) m)))
  fn : ∀ m ∈ (["within", "__contains__", "__or__", "__and__", "__eq__"] : List Str), PySem.W.isFn K (.ref (ma K (cS K) m)) = true
  sf : PySem.W.selfFirst K (cS K) = true
  obj : PySem.W.mroIn K (cS K) (.type "object") = some true
  ne : PySem.W.findIn K (.ref (cS K)) "__ne__" = some (some (.builtin "object.__ne__"))
  nfst : PySem.W.notFirst K (cS K) (.ref (cS K)) = true
  kit : PySem.W.kitOne K (.ref (cS K)) (.ref (cS K)) = some true
  ca : PySem.W.findIn K (.ref (cS K)) "__class__" = some (some (.builtin "object.__class__"))
  cg : PySem.W.specialIn K (.builtin "object.__class__") "__get__" = some (some (.builtin "getset_descriptor.__get__"))
  ct : PySem.W.takesIn K (.builtin "object.__class__") = some true
abbrev sIsInt : Stmt := top 6
abbrev nIsInt : List Str := ["value"]
theorem scIsInt : FnScope nIsInt ["value"] (defScope sIsInt) := ⟨rfl, rfl, rfl, by decide +kernel, rfl, by decide +kernel, by decide +kernel⟩
abbrev sAreM : Stmt := top 11
abbrev nAreM : List Str := ["value", "at", "mark"]
theorem scAreM : FnScope nAreM ["value"] (defScope sAreM) := ⟨rfl, rfl, rfl, by decide +kernel, rfl, by decide +kernel, by decide +kernel⟩
abbrev sMrg : Stmt := top 13
abbrev nMrg : List Str := ["marks", "one", "other", "low", "high", "mark"]
theorem scMrg : FnScope nMrg ["marks", "one", "other"] (defScope sMrg) := ⟨rfl, rfl, rfl, by decide +kernel, rfl, by decide +kernel, by decide +kernel⟩
abbrev sChk : Stmt := top 12
abbrev nChk : List Str := ["one", "other"]
theorem scChk : FnScope nChk ["one", "other"] (defScope sChk) := ⟨rfl, rfl, rfl, by decide +kernel, rfl, by decide +kernel, by decide +kernel⟩
abbrev sInit : Stmt := inClass (top 10) 0
abbrev nInit : List Str := ["self", "marks"]
theorem scInit : FnScope nInit ["self", "marks"] (defScope sInit) := ⟨rfl, rfl, rfl, by decide +kernel, rfl, by decide +kernel, by decide +kernel⟩
abbrev sMarks : Stmt := inClass (top 10) 1
abbrev nMarks : List Str := ["self"]
theorem scMarks : FnScope nMarks ["self"] (defScope sMarks) := ⟨rfl, rfl, rfl, by decide +kernel, rfl, by decide +kernel, by decide +kernel⟩
abbrev sWires : Stmt := inClass (top 10) 2
abbrev nWires : List Str := ["self"]
theorem scWires : FnScope nWires ["self"] (defScope sWires) := ⟨rfl, rfl, rfl, by decide +kernel, rfl, by decide +kernel, by decide +kernel⟩
abbrev sWithin : Stmt := inClass (top 10) 5
abbrev nWithin : List Str := ["self", "other", "at", "mark"]
theorem scWithin : FnScope nWithin ["self", "other"] (defScope sWithin) := ⟨rfl, rfl, rfl, by decide +kernel, rfl, by decide +kernel, by decide +kernel⟩
abbrev sCont : Stmt := inClass (top 10) 6
abbrev nCont : List Str := ["self", "value", "thing"]
theorem scCont : FnScope nCont ["self", "value"] (defScope sCont) := ⟨rfl, rfl, rfl, by decide +kernel, rfl, by decide +kernel, by decide +kernel⟩
abbrev sOr : Stmt := inClass (top 10) 7
abbrev nOr : List Str := ["self", "other", "together", "at", "mark"]
theorem scOr : FnScope nOr ["self", "other"] (defScope sOr) := ⟨rfl, rfl, rfl, by decide +kernel, rfl, by decide +kernel, by decide +kernel⟩
abbrev sAnd : Stmt := inClass (top 10) 8
abbrev nAnd : List Str := ["self", "other", "pairs", "pair"]
theorem scAnd : FnScope nAnd ["self", "other"] (defScope sAnd) := ⟨rfl, rfl, rfl, by decide +kernel, rfl, by decide +kernel, by decide +kernel⟩
abbrev sEq : Stmt := inClass (top 10) 9
abbrev nEq : List Str := ["self", "other"]
theorem scEq : FnScope nEq ["self", "other"] (defScope sEq) := ⟨rfl, rfl, rfl, by decide +kernel, rfl, by decide +kernel, by decide +kernel⟩
/-! ### data -/
theorem not_dec {p : Prop} [Decidable p] (h : p) : (!decide p) = false := by rw [decide_eq_true h]; rfl
theorem big_line : (100000 : Nat) ≤ sizeLine := by rw [sizeLine_eq]; omega
def mv (ms : List Nat) : List V := ms.map fun n : Nat => V.int (n : Int)
def gd (ms : List Nat) (i : Nat) : Nat := ms.getD i 0
theorem mv_len (ms : List Nat) : (mv ms).length = ms.length := List.length_map ..
theorem mv_get {ms : List Nat} {i : Nat} (h : i < ms.length) : (mv ms)[i]? = some (.int (gd ms i : Nat)) := by
  unfold mv gd
  rw [List.getElem?_map, List.getD_eq_getElem?_getD, List.getElem?_eq_getElem h]
  rfl
theorem mv_at {ms : List Nat} {i : Nat} (h : i < ms.length) : atI (mv ms) (i : Int) = some (.int (gd ms i : Nat)) := atI_nat (mv_get h)
theorem dp_mv {K : PySem.W.Frag} {H : Hp} : ∀ ms : List Nat, DpAll K H (mv ms) (ms.map fun n : Nat => PyData.int n)
  | [] => .nil
  | n :: ms => .cons (.int n) (dp_mv ms)
theorem lay_mv : ∀ ms : List Nat, PyData.canLayAll0 (ms.map fun n : Nat => PyData.int n) = true
  | [] => rfl
  | n :: ms => by
    rw [List.map_cons, PyData.canLayAll0, lay_mv ms]
    rfl
theorem depth_mv : ∀ ms : List Nat, PyData.depthAll (ms.map fun n : Nat => PyData.int n) = 0
  | [] => rfl
  | n :: ms => by
    rw [List.map_cons, PyData.depthAll, depth_mv ms]
    rfl
theorem shaped_mv (ms : List Nat) : SeqAt.shaped (.tuple (ms.map fun n : Nat => PyData.int n)) = true := by
  show (PyData.canLay0 (.tuple (ms.map fun n : Nat => PyData.int n)) && decide (PyData.depth (.tuple (ms.map fun n : Nat => PyData.int n)) ≤ 64)) = true
  rw [Bool.and_eq_true]
  refine ⟨by simp only [PyData.canLay0]; exact lay_mv ms, decide_eq_true ?_⟩
  simp only [PyData.depth]
  rw [depth_mv]
  decide
theorem eqvAll_mv : ∀ ms os : List Nat, PyData.eqvAll (ms.map fun n : Nat => PyData.int n) (os.map fun n : Nat => PyData.int n) = decide (ms = os)
  | [], [] => by simp [PyData.eqvAll]
  | [], o :: os => by simp [PyData.eqvAll]
  | m :: ms, [] => by simp [PyData.eqvAll]
  | m :: ms, o :: os => by
    rw [List.map_cons, List.map_cons, PyData.eqvAll, eqvAll_mv ms os, PyData.eqv, Bool.eq_iff_iff]
    simp
    intro _
    omega
theorem eqv_mv (ms os : List Nat) : PyData.eqv (.tuple (ms.map fun n : Nat => PyData.int n)) (.tuple (os.map fun n : Nat => PyData.int n)) = decide (ms = os) := by
  simp only [PyData.eqv]
  exact eqvAll_mv ms os
structure Canon (ms : List Nat) : Prop where
  lo : 3 ≤ ms.length
  hi : ms.length ≤ 6
  le : ∀ i, i < ms.length → gd ms i ≤ i
  fix : ∀ i, i < ms.length → gd ms (gd ms i) = gd ms i
theorem Canon.lt {ms : List Nat} (c : Canon ms) {i : Nat} (h : i < ms.length) : gd ms i < ms.length := Nat.lt_of_le_of_lt (c.le i h) h
theorem ty_tup {K : PySem.W.Frag} {H : Hp} {a : Addr} {xs : List V} (h : SqT K H a xs) : TyX K H (.ref a) (.type "tuple") := by
  rcases h with (h | ⟨o, h⟩) | ⟨o, its, n, hk, hc, _⟩
  · exact .base (.tup h)
  · exact .fTuple h
  · exact .kTuple hk hc
/-- a Standing with these marks stands at a -/
def StAt (K : PySem.W.Frag) (H : Hp) (a : Addr) (ms : List Nat) : Prop := ∃ dx t, H a = some (.ins (cS K) dx [("_marks", .ref t)]) ∧ SqT K H t (mv ms)
theorem StAt.same {K : PySem.W.Frag} {H H' : Hp} {a : Addr} {ms : List Nat} (h : StAt K H a ms) (s : Same H H') : StAt K H' a ms := by
  obtain ⟨dx, t, h1, h2⟩ := h
  exact ⟨dx, t, s _ _ h1, sqT_same s h2⟩
section
variable {P : Program} {w : World} {K : PySem.W.Frag} {mg : Str → Option Value} {base : Heap}
/-! ### is_int -/
def spIsInt (K : PySem.W.Frag) : Sp := fun vs H Q _ => ∃ (x : V) (t : Value) (b1 b2 : Bool), vs = [x] ∧ TyX K H x t ∧ PySem.W.kitOne K t (.type "int") = some b1 ∧ PySem.W.kitOne K t (.type "bool") = some b2 ∧ Q (.bl (b1 && !b2)) H
theorem ok_IsInt {f : Addr} {fd : FuncData} (T : Txt K mg) (F : FnP K "is_int" "is_int" sIsInt f fd) : Pr P w K mg base 1 f ["value"] (spIsInt K) := by
  refine .of (F.ok scIsInt (fun vs H Q E h => ?_) (fun cdv A outer s H vs Q E hr h => ⟨_, PSs.nox (pss_one (ps_ret (pe_and (pe_callB (isiK K) rfl (T.free _ (by decide +kernel)) (by decide +kernel) (pa_cons (pv 0) (pa_cons (pe_bltn (v := .ty "int") rfl (T.free _ (by decide +kernel)) (by decide +kernel) rfl) pa_nil))) (pe_one (pe_not (pe_callB (isiK K) rfl (T.free _ (by decide +kernel)) (by decide +kernel) (pa_cons (pv 0) (pa_cons (pe_bltn (v := .ty "bool") rfl (T.free _ (by decide +kernel)) (by decide +kernel) rfl) pa_nil)))))))), ?_⟩)) (F.bindsN fun _ _ _ _ _ _ us hl => match us, hl with | [_], _ => rfl) F.kp
  · obtain ⟨x, t, b1, b2, rfl, _⟩ := h
    rfl
  · obtain ⟨x, t, b1, b2, rfl, ty, k1, k2, q⟩ := h
    refine ⟨_, rfl, x, _, t, _, b1, rfl, .ty _, ty, k1, b1, rfl, ?_⟩
    cases b1 with
    | false => exact iteF q
    | true => exact iteT ⟨_, rfl, x, _, t, _, b2, rfl, .ty _, ty, k2, b2, rfl, q⟩
/-! ### are_marks -/
def spAreM (K : PySem.W.Frag) : Sp := fun vs H Q _ => ∃ (t : Addr) (ms : List Nat), vs = [.ref t] ∧ SqT K H t (mv ms) ∧ Canon ms ∧ ∀ H', Same H H' → Q (.bl true) H'
theorem ok_AreM {f : Addr} {fd : FuncData} (T : Txt K mg) (F : FnP K "are_marks" "are_marks" sAreM f fd) (GIsInt : Pr P w K mg base 1 (ga K "is_int") ["value"] (spIsInt K)) : Pr P w K mg base 2 f ["value"] (spAreM K) := by
  refine .of (F.ok scAreM (fun vs H Q E h => ?_) (fun cdv A outer s H vs Q E hr h => ⟨_, PSs.nox (pss_cons (ps_if (PW.pt (pw_or (pt_not (pt_val (pe_callB (isiK K) rfl (T.free _ (by decide +kernel)) (by decide +kernel) (pa_cons (pv 0) (pa_cons (pe_bltn (v := .ty "tuple") rfl (T.free _ (by decide +kernel)) (by decide +kernel) rfl) pa_nil))))) (pw_or1 (pt_not (pt_chain op_le op_le (pe_op op_add (pe_glob (v := .int 1) rfl (T.nums "LEAST_WIRES" 1 (by decide)).choose_spec ⟨_, rfl⟩) pe_int) (pe_callB (lenK K) rfl (T.free _ (by decide +kernel)) (by decide +kernel) (pa_cons (pv 0) pa_nil)) (pe_op op_add (pe_glob (v := .int 4) rfl (T.nums "MOST_WIRES" 4 (by decide)).choose_spec ⟨_, rfl⟩) pe_int)))))) (pss_one (ps_ret pe_bl)) pss_nil) (pss_one (ps_ret (pe_callB (cr_all rfl) rfl (T.free _ (by decide +kernel)) (by decide +kernel) (pa_cons (pe_lc (own := [("at", 1), ("mark", 2)]) (g := _) (tt := tYes) rfl scAreM.nd (pi_enumT rfl (T.free _ (by decide +kernel)) (pa_cons (pv 0) pa_nil)) (blkOk_by (N := nAreM) (sc := defScope sAreM) (by decide +kernel)) (fun _ _ _ _ _ => (tupG K 2 (pgs_cons (pg_name (i := 1) scAreM.nd rfl (Or.inl rfl)) (pgs_cons (pg_name (i := 2) scAreM.nd rfl (Or.inl rfl)) pgs_nil)))) (fun _ _ _ _ _ => pts_nil) (fun _ _ _ _ _ => (pe_and (pcl GIsInt (hr.mono (by decide)) rfl (T.gl "is_int" (by decide +kernel)) (pa_cons (pv 2) pa_nil)) (pe_and (pe_chain op_le op_le pe_int (pv 2) (pv 1)) (pe_one (pe_cmpR op_eq (pe_ix (ixT K) (pv 0) (pv 2) (fun _ _ => rfl)) (pv 2) (nomark _))))))) pa_nil))))), ?_⟩)) (F.bindsN fun _ _ _ _ _ _ us hl => match us, hl with | [_], _ => rfl) F.kp
  · obtain ⟨t, ms, rfl, _⟩ := h
    rfl
  · obtain ⟨t, ms, rfl, hs, c, q⟩ := h
    have c1 := c.lo
    have c2 := c.hi
    have big := big_line
    refine ⟨_, rfl, .ref t, _, _, _, true, rfl, .ty _, ty_tup hs, kit_ty (by decide +kernel), true, rfl, iteF ?_⟩
    refine ⟨1, 2, rfl, rfl, _, rfl, t, mv ms, rfl, .inr hs, 3, _, rfl, rfl, _, rfl, ?_⟩
    rw [mv_len]
    refine ifT (decide_eq_true (by omega)) ⟨4, 2, rfl, rfl, _, _, rfl, rfl, _, rfl, ifF (not_dec (by omega)) ?_⟩
    refine ⟨_, rfl, t, mv ms, rfl, hs, fun D hD => lc_it (walk_enumT (K := K) (a := t) (xs := mv ms)) (fun i H' => H' D = some (.lst (List.replicate i (V.bl true))) ∧ Same H H') ⟨upd_same, fun b o e => by rw [upd_ne (ne_of_none e hD)]; exact e⟩ (fun i H' _ z => sqT_same z.2 hs) ?_ ?_⟩
    · rintro i x H1 H2 hi ⟨h1, s1⟩ ⟨T0, n0, y0, rfl, hT, rfl, e1, e2⟩
      cases (show V.int (i : Nat) = n0 from Option.some.inj e1)
      rw [mv_len] at hi
      cases (show V.int (gd ms i : Nat) = y0 from Option.some.inj ((mv_get hi).symm.trans e2))
      have s2 : Same H (upd H1 T0 (.tup [V.int (i : Nat), V.int (gd ms i : Nat)])) := s1.trans fun b o e => by rw [upd_ne (ne_of_none e hT)]; exact e
      have le := c.le i hi
      refine ⟨T0, _, rfl, SqT.of upd_same, rfl, _, _, rfl, _, _, rfl, rfl, rfl, _, rfl, _, _, true, false, rfl, .base (.int _), kit_ty (by decide +kernel), kit_ty (by decide +kernel), _, rfl, iteT ?_⟩
      refine ⟨_, rfl, _, _, rfl, rfl, _, rfl, ifT (by simp) ⟨_, rfl, _, _, rfl, rfl, _, rfl, ifT (by simpa using le) ?_⟩⟩
      refine ⟨_, rfl, _, rfl, t, mv ms, _, _, rfl, rfl, sqT_same s2 hs, mv_at (c.lt hi), _, rfl, rfl, ?_⟩
      rw [c.fix i hi]
      refine ⟨_, (by rw [upd_ne (ne_of_none h1 hT)]; exact h1), by rw [List.length_replicate]; omega, ?_, fun b o e => ?_⟩
      · rw [upd_same, List.replicate_succ']
        simp
      · rw [upd_ne (ne_of_none e hD)]
        exact s2 _ _ e
    · rintro H1 ⟨h1, s1⟩
      refine ⟨D, List.replicate (mv ms).length true, rfl, SqL.of (by rw [h1, List.map_replicate]), ?_⟩
      have e : (List.replicate (mv ms).length true).all id = true := by simp
      rw [e]
      exact q _ s1
end
end K02

set_option Elab.async false
set_option linter.all false
set_option maxRecDepth 100000
set_option maxHeartbeats 4000000
namespace K02
open PySem PySem.Spec PyProof.Rows L2 Lw
section
variable {P : Program} {w : World} {K : PySem.W.Frag} {mg : Str → Option Value} {base : Heap}
/-! ### merged -/
def mergeM (ms : List Nat) (a b : Nat) : List Nat := ms.map fun m => if m = max (gd ms a) (gd ms b) then min (gd ms a) (gd ms b) else m
def spMrg (K : PySem.W.Frag) : Sp := fun vs H Q _ => ∃ (t : Addr) (ms : List Nat) (a b : Nat), vs = [.ref t, .int (a : Nat), .int (b : Nat)] ∧ SqT K H t (mv ms) ∧ ms.length ≤ 6 ∧ a < ms.length ∧ b < ms.length ∧ ∀ (t' : Addr) (H' : Hp), Same H H' → H' t' = some (.tup (mv (mergeM ms a b))) → Q (.ref t') H'
theorem ok_Mrg {f : Addr} {fd : FuncData} (T : Txt K mg) (F : FnP K "merged" "merged" sMrg f fd) : Pr P w K mg base 1 f ["marks", "one", "other"] (spMrg K) := by
  refine .of (F.ok scMrg (fun vs H Q E h => ?_) (fun cdv A outer s H vs Q E hr h => ⟨_, PSs.nox (pss_cons (ps_set (i := 3) scMrg.nd rfl (Or.inr rfl) (pe_callB (call_min2 rfl) rfl (T.free _ (by decide +kernel)) (by decide +kernel) (pa_cons (pe_ix (ixT K) (pv 0) (pv 1) (fun _ _ => rfl)) (pa_cons (pe_ix (ixT K) (pv 0) (pv 2) (fun _ _ => rfl)) pa_nil)))) (pss_cons (ps_set (i := 4) scMrg.nd rfl (Or.inr rfl) (pe_callB (call_max2 rfl) rfl (T.free _ (by decide +kernel)) (by decide +kernel) (pa_cons (pe_ix (ixT K) (pv 0) (pv 1) (fun _ _ => rfl)) (pa_cons (pe_ix (ixT K) (pv 0) (pv 2) (fun _ _ => rfl)) pa_nil)))) (pss_one (ps_ret (pe_callTy call_tuple_of rfl (T.free _ (by decide +kernel)) (by decide +kernel) (pa_cons (pe_lc (own := [("mark", 5)]) (g := gName 5) (tt := tYes) rfl scMrg.nd (pi_tup (pv 0)) (blkOk_by (N := nMrg) (sc := defScope sMrg) (by decide +kernel)) (fun _ _ _ _ _ => (pg_name (i := 5) scMrg.nd rfl (Or.inl rfl))) (fun _ _ _ _ _ => pts_nil) (fun _ _ _ _ _ => (pe_ifExp (pt_cmpR op_eq (pv 5) (pv 4) (nomark _)) (pv 3) (pv 5)))) pa_nil)))))), ?_⟩)) (F.bindsN fun _ _ _ _ _ _ us hl => match us, hl with | [_, _, _], _ => rfl) F.kp
  · obtain ⟨t, ms, a, b, rfl, _⟩ := h
    rfl
  · obtain ⟨t, ms, a, b, rfl, hs, hl, ha, hb, q⟩ := h
    have big := big_line
    refine seq_reads (set_reads ?_)
    refine ⟨_, rfl, _, rfl, t, mv ms, _, _, rfl, rfl, hs, mv_at ha, _, rfl, _, rfl, t, mv ms, _, _, rfl, rfl, hs, mv_at hb, _, _, rfl, ?_⟩
    dsimp only
    refine seq_reads (set_reads ?_)
    refine ⟨_, rfl, _, rfl, t, mv ms, _, _, rfl, rfl, hs, mv_at ha, _, rfl, _, rfl, t, mv ms, _, _, rfl, rfl, hs, mv_at hb, _, _, rfl, ?_⟩
    have e1 : (if ((gd ms b : Nat) : Int) < ((gd ms a : Nat) : Int) then ((gd ms b : Nat) : Int) else ((gd ms a : Nat) : Int)) = ((min (gd ms a) (gd ms b) : Nat) : Int) := by
      split <;> omega
    have e2 : (if ((gd ms b : Nat) : Int) > ((gd ms a : Nat) : Int) then ((gd ms b : Nat) : Int) else ((gd ms a : Nat) : Int)) = ((max (gd ms a) (gd ms b) : Nat) : Int) := by
      split <;> omega
    rw [e1, e2]
    refine ⟨_, rfl, t, rfl, ⟨_, hs⟩, fun D hD => lc_tup (K := K) (a := t) (xs := mv ms) (fun i H' => H' D = some (.lst ((mv (mergeM ms a b)).take i)) ∧ Same H H') ⟨upd_same, fun c o e => by rw [upd_ne (ne_of_none e hD)]; exact e⟩ (fun i H' _ z => sqT_same z.2 hs) ?_ ?_⟩
    · rintro i x H1 hx ⟨h1, s1⟩
      have hi : i < ms.length := by
        have e := (List.getElem?_eq_some_iff.mp hx).1
        rwa [mv_len] at e
      cases (show V.int (gd ms i : Nat) = x from Option.some.inj ((mv_get hi).symm.trans hx))
      have lenM : (mv (mergeM ms a b)).length = ms.length := by rw [mv_len]; exact List.length_map ..
      have fin : ∀ z : Nat, z = gd (mergeM ms a b) i → ∃ acc, H1 D = some (.lst acc) ∧ acc.length < sizeLine ∧ (upd H1 D (.lst (acc ++ [V.int (z : Nat)]))) D = some (.lst ((mv (mergeM ms a b)).take (i + 1))) ∧ Same H (upd H1 D (.lst (acc ++ [V.int (z : Nat)]))) := fun z hz => by
        refine ⟨_, h1, by rw [List.length_take, lenM]; omega, ?_, fun c o e => ?_⟩
        · rw [upd_same, List.take_succ, mv_get (by rw [← mv_len, lenM]; exact hi), hz]
          rfl
        · rw [upd_ne (ne_of_none e hD)]
          exact s1 _ _ e
      have gM : gd (mergeM ms a b) i = if gd ms i = max (gd ms a) (gd ms b) then min (gd ms a) (gd ms b) else gd ms i := by
        unfold mergeM gd
        rw [List.getD_eq_getElem?_getD, List.getElem?_map, List.getElem?_eq_getElem hi]
        simp only [Option.map_some, Option.getD_some, List.getD_eq_getElem?_getD, List.getElem?_eq_getElem hi]
      refine ⟨rfl, _, rfl, _, rfl, rfl, _, rfl, ?_⟩
      by_cases e : gd ms i = max (gd ms a) (gd ms b)
      · rw [if_pos e] at gM
        refine ifT (decide_eq_true (by rw [e])) ⟨_, rfl, fin _ gM.symm⟩
      · rw [if_neg e] at gM
        refine ifF (decide_eq_false fun z => e ?_) ⟨_, rfl, fin _ gM.symm⟩
        have z2 := V.int.inj z
        omega
    · rintro H1 ⟨h1, s1⟩
      have lenM : (mv (mergeM ms a b)).length = (mv ms).length := by rw [mv_len, mv_len]; exact List.length_map ..
      rw [← lenM, List.take_length] at h1
      refine ⟨D, _, rfl, .inl ⟨SqL.of h1, fun l hl => q l _ (fun c o e => ?_) upd_same⟩⟩
      rw [upd_ne (ne_of_none (s1 _ _ e) hl)]
      exact s1 _ _ e
/-! ### the properties -/
def spMarks (K : PySem.W.Frag) : Sp := fun vs H Q _ => ∃ (a dx t : Addr), vs = [.ref a] ∧ H a = some (.ins (cS K) dx [("_marks", .ref t)]) ∧ Q (.ref t) H
theorem ok_Marks {f : Addr} {fd : FuncData} (T : Txt K mg) (F : FnP K "marks" "Standing.marks" sMarks f fd) : Pr P w K mg base 1 f ["self"] (spMarks K) := by
  refine .of (F.ok scMarks (fun vs H Q E h => ?_) (fun cdv A outer s H vs Q E hr h => ⟨_, PSs.nox (pss_one (ps_ret (fldK K (pv 0)))), ?_⟩)) (F.bindsN fun _ _ _ _ _ _ us hl => match us, hl with | [_], _ => rfl) F.kp
  · obtain ⟨a, dx, t, rfl, _⟩ := h
    rfl
  · obtain ⟨a, dx, t, rfl, ha, q⟩ := h
    exact ⟨_, rfl, a, _, dx, _, _, rfl, ha, T.cls, T.nof, rfl, q⟩
def spWires (K : PySem.W.Frag) : Sp := fun vs H Q _ => ∃ (a : Addr) (ms : List Nat), vs = [.ref a] ∧ StAt K H a ms ∧ Q (.int ((ms.length : Int) - 2)) H
theorem ok_Wires {f : Addr} {fd : FuncData} (T : Txt K mg) (F : FnP K "wires" "Standing.wires" sWires f fd) : Pr P w K mg base 1 f ["self"] (spWires K) := by
  refine .of (F.ok scWires (fun vs H Q E h => ?_) (fun cdv A outer s H vs Q E hr h => ⟨_, PSs.nox (pss_one (ps_ret (pe_op op_sub (pe_callB (lenK K) rfl (T.free _ (by decide +kernel)) (by decide +kernel) (pa_cons (fldK K (pv 0)) pa_nil)) pe_int))), ?_⟩)) (F.bindsN fun _ _ _ _ _ _ us hl => match us, hl with | [_], _ => rfl) F.kp
  · obtain ⟨a, ms, rfl, _⟩ := h
    rfl
  · obtain ⟨a, ms, rfl, ⟨dx, t, ha, hs⟩, q⟩ := h
    refine ⟨_, rfl, a, _, dx, _, _, rfl, ha, T.cls, T.nof, rfl, t, mv ms, rfl, .inr hs, _, 2, rfl, rfl, ?_⟩
    rw [mv_len]
    exact q
/-! ### check_wires -/
def spChk (K : PySem.W.Frag) : Sp := fun vs H Q _ => ∃ (a b : Addr) (ms os : List Nat), vs = [.ref a, .ref b] ∧ StAt K H a ms ∧ StAt K H b os ∧ ms.length = os.length ∧ Q .non H
theorem ok_Chk {f : Addr} {fd : FuncData} (T : Txt K mg) (F : FnP K "check_wires" "check_wires" sChk f fd) (GWires : Pr P w K mg base 1 (He5.wf K (cS K) "property" "wires") ["self"] (spWires K)) : Pr P w K mg base 3 f ["one", "other"] (spChk K) := by
  refine .of (F.ok scChk (fun vs H Q E h => ?_) (fun cdv A outer s H vs Q E hr h => ⟨_, PSs.nox (pss_one (ps_if (pt_cmpR op_ne (ppr (pv 0) T.cls T.pWires GWires (hr.mono (by decide))) (ppr (pv 1) T.cls T.pWires GWires (hr.mono (by decide))) (nomark _)) (pss_one ps_never) pss_nil)), ?_⟩)) (F.bindsN fun _ _ _ _ _ _ us hl => match us, hl with | [_, _], _ => rfl) F.kp
  · obtain ⟨a, b, ms, os, rfl, _⟩ := h
    rfl
  · obtain ⟨a, b, ms, os, rfl, ha, hb, hl, q⟩ := h
    obtain ⟨dx, t, ea, _⟩ := id ha
    obtain ⟨dy, u, eb, _⟩ := id hb
    refine ⟨_, rfl, a, dx, _, rfl, ea, a, ms, rfl, ha, _, rfl, b, dy, _, rfl, eb, b, os, rfl, hb, rfl, _, rfl, ifF (by rw [hl]; simp) q⟩
/-! ### __init__ -/
def spInit (K : PySem.W.Frag) : Sp := fun vs H Q _ => ∃ (a dx t : Addr) (ms : List Nat), vs = [.ref a, .ref t] ∧ H a = some (.ins (cS K) dx []) ∧ SqT K H t (mv ms) ∧ Canon ms ∧ ∀ H' : Hp, (∀ b o, b ≠ a → H b = some o → H' b = some o) → H' a = some (.ins (cS K) dx [("_marks", .ref t)]) → Q .non H'
theorem ok_Init {f : Addr} {fd : FuncData} (T : Txt K mg) (F : FnP K "__init__" "Standing.__init__" sInit f fd) (GAreM : Pr P w K mg base 2 (ga K "are_marks") ["value"] (spAreM K)) : Pr P w K mg base 3 f ["self", "marks"] (spInit K) := by
  refine .of (F.ok scInit (fun vs H Q E h => ?_) (fun cdv A outer s H vs Q E hr h => ⟨_, PSs.nox (pss_cons (ps_if (pt_not (pt_val (pcl GAreM (hr.mono (by decide)) rfl (T.gl "are_marks" (by decide +kernel)) (pa_cons (pv 1) pa_nil)))) (pss_one ps_never) pss_nil) (pss_one (ps_fld (pv 0) (pv 1) rfl))), ?_⟩)) (F.bindsN fun _ _ _ _ _ _ us hl => match us, hl with | [_, _], _ => rfl) F.kp
  · obtain ⟨a, dx, t, ms, rfl, _⟩ := h
    rfl
  · obtain ⟨a, dx, t, ms, rfl, ha, hs, c, q⟩ := h
    refine ⟨_, rfl, t, ms, rfl, hs, c, fun H1 s1 => ⟨true, rfl, iteF ⟨_, rfl, _, rfl, a, _, dx, _, rfl, s1 _ _ ha, T.cls, T.nof, by decide, ?_⟩⟩⟩
    refine q _ (fun b o n e => ?_) upd_same
    rw [upd_ne n]
    exact s1 _ _ e
/-- Standing(t), t the marks of a standing -/
theorem mk_st {σ : L2.St} {H : Hp} {Q : VK} {ta : TA} (h : ta σ H fun vs H1 => ∃ (t : Addr) (ms : List Nat), vs = [.ref t] ∧ SqT K H1 t (mv ms) ∧ Canon ms ∧ ∀ (x : Addr) (H' : Hp), Same H1 H' → H1 x = none → StAt K H' x ms → Q (.ref x) H') (mono : ∀ (R R' : List V → Hp → Prop), (∀ vs H, R vs H → R' vs H) → ta σ H R → ta σ H R') :
    tMake (cS K) (spInit K) [] E0 ta σ H Q := by
  refine mono _ _ (fun vs H1 hh => ?_) h
  obtain ⟨t, ms, rfl, hs, c, q⟩ := hh
  intro x dx nx ndx ne
  have k0 : Same H1 (upd (upd H1 dx (.own x)) x (.ins (cS K) dx [])) := fun b o e => by
    rw [upd_ne (ne_of_none e nx), upd_ne (ne_of_none e ndx)]
    exact e
  refine ⟨x, dx, t, ms, rfl, upd_same, sqT_same k0 hs, c, fun H' k1 k2 => ⟨rfl, ?_⟩⟩
  have k3 : Same H1 H' := fun b o e => k1 _ _ (ne_of_none e nx) (k0 _ _ e)
  exact q x H' k3 nx ⟨dx, t, k2, sqT_same k3 hs⟩
/-! ### in -/
def spCont (K : PySem.W.Frag) : Sp := fun vs H Q _ => ∃ (a p : Addr) (ms : List Nat) (i j : Nat), vs = [.ref a, .ref p] ∧ StAt K H a ms ∧ ms.length ≤ 6 ∧ SqT K H p [.int (i : Nat), .int (j : Nat)] ∧ i < ms.length ∧ j < ms.length ∧ ∀ H', Same H H' → Q (.bl (gd ms i == gd ms j)) H'
theorem ok_Cont {f : Addr} {fd : FuncData} (T : Txt K mg) (F : FnP K "__contains__" "Standing.__contains__" sCont f fd) (GIsInt : Pr P w K mg base 1 (ga K "is_int") ["value"] (spIsInt K)) : Pr P w K mg base 2 f ["self", "value"] (spCont K) := by
  refine .of (F.ok scCont (fun vs H Q E h => ?_) (fun cdv A outer s H vs Q E hr h => ⟨_, PSs.nox (pss_cons (ps_if (PW.pt (pw_or (pt_not (pt_val (pe_callB (isiK K) rfl (T.free _ (by decide +kernel)) (by decide +kernel) (pa_cons (pv 1) (pa_cons (pe_bltn (v := .ty "tuple") rfl (T.free _ (by decide +kernel)) (by decide +kernel) rfl) pa_nil))))) (pw_or1 (pt_cmpR op_ne (pe_callB (lenK K) rfl (T.free _ (by decide +kernel)) (by decide +kernel) (pa_cons (pv 1) pa_nil)) pe_int (nomark _))))) (pss_one (ps_ret pe_bl)) pss_nil) (pss_cons (ps_if (pt_not (pt_val (pe_callB (cr_all rfl) rfl (T.free _ (by decide +kernel)) (by decide +kernel) (pa_cons (pe_lc (own := [("thing", 2)]) (g := gName 2) (tt := tYes) rfl scCont.nd (pi_tup (pv 1)) (blkOk_by (N := nCont) (sc := defScope sCont) (by decide +kernel)) (fun _ _ _ _ _ => (pg_name (i := 2) scCont.nd rfl (Or.inl rfl))) (fun _ _ _ _ _ => pts_nil) (fun _ _ _ _ _ => (pe_and (pcl GIsInt (hr.mono (by decide)) rfl (T.gl "is_int" (by decide +kernel)) (pa_cons (pv 2) pa_nil)) (pe_one (pe_chain op_le op_lt pe_int (pv 2) (pe_callB (lenK K) rfl (T.free _ (by decide +kernel)) (by decide +kernel) (pa_cons (fldK K (pv 0)) pa_nil))))))) pa_nil)))) (pss_one (ps_ret pe_bl)) pss_nil) (pss_one (ps_ret (pe_cmpR op_eq (pe_ix (ixT K) (fldK K (pv 0)) (pe_ix (ixT K) (pv 1) pe_int (fun _ _ => rfl)) (fun _ _ => rfl)) (pe_ix (ixT K) (fldK K (pv 0)) (pe_ix (ixT K) (pv 1) pe_int (fun _ _ => rfl)) (fun _ _ => rfl)) (nomark _)))))), ?_⟩)) (F.bindsN fun _ _ _ _ _ _ us hl => match us, hl with | [_, _], _ => rfl) F.kp
  · obtain ⟨a, p, ms, i, j, rfl, _⟩ := h
    rfl
  · obtain ⟨a, p, ms, i, j, rfl, ⟨dx, t, ea, hs⟩, l6, hp, hi, hj, q⟩ := h
    have big := big_line
    refine ⟨_, rfl, .ref p, _, _, _, true, rfl, .ty _, ty_tup hp, kit_ty (by decide +kernel), true, rfl, iteF ?_⟩
    refine ⟨_, rfl, p, _, rfl, .inr hp, rfl, _, rfl, ifF rfl ?_⟩
    refine ⟨_, rfl, p, rfl, ⟨_, hp⟩, fun D hD => lc_tup (K := K) (a := p) (xs := [.int (i : Nat), .int (j : Nat)]) (fun n H' => H' D = some (.lst (List.replicate n (V.bl true))) ∧ Same H H') ⟨upd_same, fun c o e => by rw [upd_ne (ne_of_none e hD)]; exact e⟩ (fun i H' _ z => sqT_same z.2 hp) ?_ ?_⟩
    · rintro n x H1 hx ⟨h1, s1⟩
      have hn : n < 2 := (List.getElem?_eq_some_iff.mp hx).1
      have hx2 : ∃ m : Nat, x = .int (m : Nat) ∧ m < ms.length := by
        match n, hx with
        | 0, hx => exact ⟨i, (Option.some.inj hx).symm, hi⟩
        | 1, hx => exact ⟨j, (Option.some.inj hx).symm, hj⟩
      obtain ⟨m, rfl, hm⟩ := hx2
      refine ⟨rfl, _, rfl, _, _, true, false, rfl, .base (.int _), kit_ty (by decide +kernel), kit_ty (by decide +kernel), _, rfl, iteT ?_⟩
      refine ⟨_, rfl, _, _, rfl, rfl, _, rfl, ifT (decide_eq_true (by omega)) ⟨_, rfl, a, _, dx, _, _, rfl, s1 _ _ ea, T.cls, T.nof, rfl, t, mv ms, rfl, .inr (sqT_same s1 hs), _, _, rfl, rfl, ?_⟩⟩
      have e : decide ((m : Int) < ((mv ms).length : Int)) = true := by rw [mv_len]; exact decide_eq_true (by omega)
      show ∃ acc, H1 D = some (.lst acc) ∧ acc.length < sizeLine ∧ upd H1 D (.lst (acc ++ [V.bl (decide ((m : Int) < ((mv ms).length : Int)))])) D = _ ∧ Same H (upd H1 D (.lst (acc ++ [V.bl (decide ((m : Int) < ((mv ms).length : Int)))])))
      rw [e]
      refine ⟨_, h1, by rw [List.length_replicate]; omega, ?_, fun c o e => ?_⟩
      · rw [upd_same, List.replicate_succ']
      · rw [upd_ne (ne_of_none e hD)]
        exact s1 _ _ e
    · rintro H1 ⟨h1, s1⟩
      refine ⟨D, [true, true], rfl, SqL.of h1, true, rfl, iteF ?_⟩
      refine ⟨_, rfl, a, _, dx, _, _, rfl, s1 _ _ ea, T.cls, T.nof, rfl, _, rfl, p, _, ((0 : Nat) : Int), _, rfl, rfl, sqT_same s1 hp, atI_nat rfl, t, mv ms, _, _, rfl, rfl, sqT_same s1 hs, mv_at hi, ?_⟩
      refine ⟨_, rfl, a, _, dx, _, _, rfl, s1 _ _ ea, T.cls, T.nof, rfl, _, rfl, p, _, ((1 : Nat) : Int), _, rfl, rfl, sqT_same s1 hp, atI_nat rfl, t, mv ms, _, _, rfl, rfl, sqT_same s1 hs, mv_at hj, rfl, ?_⟩
      have e : decide (V.int (gd ms i : Nat) = V.int (gd ms j : Nat)) = (gd ms i == gd ms j) := by
        rw [dec_int, Bool.eq_iff_iff, beq_iff_eq, beq_iff_eq]
        omega
      rw [e]
      exact q _ s1
/-! ### == -/
def spEq (K : PySem.W.Frag) : Sp := fun vs H Q _ => ∃ (a b : Addr) (ms os : List Nat), vs = [.ref a, .ref b] ∧ StAt K H a ms ∧ StAt K H b os ∧ Q (.bl (decide (ms = os))) H
theorem ok_Eq {f : Addr} {fd : FuncData} (T : Txt K mg) (F : FnP K "__eq__" "Standing.__eq__" sEq f fd) : Pr P w K mg base 1 f ["self", "other"] (spEq K) := by
  refine .of (F.ok scEq (fun vs H Q E h => ?_) (fun cdv A outer s H vs Q E hr h => ⟨_, PSs.nox (pss_one (ps_ret (pe_and (pe_callB (isiK K) rfl (T.free _ (by decide +kernel)) (by decide +kernel) (pa_cons (pv 1) (pa_cons (pe_glob (v := .ref (cS _)) rfl T.gS rfl) pa_nil))) (pe_one (pe_cmpR (eqK K (by have := hr.un; show (A.deeper _).units + 64 < cLine; omega)) (fldK K (pv 0)) (fldK K (pv 1)) (nomark _)))))), ?_⟩)) (F.bindsN fun _ _ _ _ _ _ us hl => match us, hl with | [_, _], _ => rfl) F.kp
  · obtain ⟨a, b, ms, os, rfl, _⟩ := h
    rfl
  · obtain ⟨a, b, ms, os, rfl, ⟨dx, t, ea, hs⟩, ⟨dy, u, eb, hu⟩, q⟩ := h
    refine ⟨_, rfl, .ref b, _, _, _, true, rfl, .own _, .base (.ins eb T.cls T.ca T.cg T.ct T.obj), T.kit, true, rfl, iteT ?_⟩
    refine ⟨_, rfl, a, _, dx, _, _, rfl, ea, T.cls, T.nof, rfl, _, rfl, b, _, dy, _, _, rfl, eb, T.cls, T.nof, rfl, .tuple (ms.map fun n : Nat => PyData.int n), .tuple (os.map fun n : Nat => PyData.int n), .tup hs (dp_mv ms), .tup hu (dp_mv os), shaped_mv ms, shaped_mv os, ?_⟩
    rw [eqv_mv]
    exact q
end
end K02

set_option Elab.async false
set_option linter.all false
set_option maxRecDepth 100000
set_option maxHeartbeats 4000000
/-! Marks as partitions: what | and & come to. -/
namespace K02
open PySem PySem.Spec PyProof.Rows L2 Lw
theorem gd_map {f : Nat → Nat} {ms : List Nat} {i : Nat} (h : i < ms.length) : gd (ms.map f) i = f (gd ms i) := by
  unfold gd
  rw [List.getD_eq_getElem?_getD, List.getElem?_map, List.getD_eq_getElem?_getD, List.getElem?_eq_getElem h]
  rfl
theorem merge_len (ms : List Nat) (a b : Nat) : (mergeM ms a b).length = ms.length := List.length_map ..
theorem gd_merge {ms : List Nat} {a b i : Nat} (h : i < ms.length) : gd (mergeM ms a b) i = if gd ms i = max (gd ms a) (gd ms b) then min (gd ms a) (gd ms b) else gd ms i := gd_map h
theorem gd_ext {ms os : List Nat} (hl : ms.length = os.length) (h : ∀ i, i < ms.length → gd ms i = gd os i) : ms = os := by
  refine List.ext_getElem hl fun i h1 h2 => ?_
  have e := h i h1
  unfold gd at e
  rwa [List.getD_eq_getElem?_getD, List.getD_eq_getElem?_getD, List.getElem?_eq_getElem h1, List.getElem?_eq_getElem h2] at e
theorem merge_canon {ms : List Nat} {a b : Nat} (c : Canon ms) (ha : a < ms.length) (hb : b < ms.length) : Canon (mergeM ms a b) := by
  have la := c.lt ha
  have lb := c.lt hb
  have fa := c.fix a ha
  have fb := c.fix b hb
  have le : ∀ i, i < ms.length → gd (mergeM ms a b) i ≤ i := fun i hi => by
    have h1 := c.le i hi
    rw [gd_merge hi]
    split <;> omega
  refine ⟨by rw [merge_len]; exact c.lo, by rw [merge_len]; exact c.hi, fun i hi => le i (by rwa [merge_len] at hi), fun i hi => ?_⟩
  rw [merge_len] at hi
  have li := c.lt hi
  have fi := c.fix i hi
  have hm := le i hi
  rw [gd_merge (Nat.lt_of_le_of_lt hm hi), gd_merge hi]
  by_cases e : gd ms i = max (gd ms a) (gd ms b)
  · rw [if_pos e]
    have hmin : gd ms (min (gd ms a) (gd ms b)) = min (gd ms a) (gd ms b) := by
      rcases Nat.le_total (gd ms a) (gd ms b) with z | z
      · rw [Nat.min_eq_left z]; exact fa
      · rw [Nat.min_eq_right z]; exact fb
    rw [hmin]
    split <;> rfl
  · rw [if_neg e, fi, if_neg e]
/-- what hangs together by the one does by the other -/
def Le (ms os : List Nat) : Prop := ∀ i, i < ms.length → gd os i = gd os (gd ms i)
def withinB (ms os : List Nat) : Bool := (List.range ms.length).all fun i => gd os i == gd os (gd ms i)
theorem within_iff {ms os : List Nat} : withinB ms os = true ↔ Le ms os := by
  unfold withinB Le
  rw [List.all_eq_true]
  constructor
  · intro h i hi
    exact beq_iff_eq.mp (h i (List.mem_range.mpr hi))
  · intro h i hi
    exact beq_iff_eq.mpr (h i (List.mem_range.mp hi))
theorem le_refl {ms : List Nat} (c : Canon ms) : Le ms ms := fun i hi => (c.fix i hi).symm
theorem le_rel {ms os : List Nat} (h : Le ms os) {i j : Nat} (hi : i < ms.length) (hj : j < ms.length) (e : gd ms i = gd ms j) : gd os i = gd os j := by rw [h i hi, h j hj, e]
theorem le_of_rel {ms os : List Nat} (c : Canon ms) (h : ∀ i j, i < ms.length → j < ms.length → gd ms i = gd ms j → gd os i = gd os j) : Le ms os := fun i hi => h i _ hi (c.lt hi) (c.fix i hi).symm
theorem le_trans {ms os ps : List Nat} (c : Canon ms) (hl : ms.length = os.length) (h1 : Le ms os) (h2 : Le os ps) : Le ms ps :=
  le_of_rel c fun i j hi hj e => le_rel h2 (hl ▸ hi) (hl ▸ hj) (le_rel h1 hi hj e)
theorem le_antisymm {ms os : List Nat} (c : Canon ms) (d : Canon os) (hl : ms.length = os.length) (h1 : Le ms os) (h2 : Le os ms) : ms = os := by
  refine gd_ext hl fun i hi => ?_
  have hi2 : i < os.length := hl ▸ hi
  have a1 : gd ms i = gd ms (gd os i) := h2 i hi2
  have a2 : gd os i = gd os (gd ms i) := h1 i hi
  have b1 := c.le (gd os i) (hl ▸ d.lt hi2)
  have b2 := d.le (gd ms i) (hl ▸ c.lt hi)
  omega
/-! ### | -/
def orTo (ms os : List Nat) (i : Nat) : List Nat := (List.range i).foldl (fun t k => mergeM t k (gd os k)) ms
def orM (ms os : List Nat) : List Nat := orTo ms os os.length
theorem orTo_succ (ms os : List Nat) (i : Nat) : orTo ms os (i + 1) = mergeM (orTo ms os i) i (gd os i) := by
  unfold orTo
  rw [List.range_succ, List.foldl_append]
  rfl
theorem orTo_ok {ms os : List Nat} (c : Canon ms) (d : Canon os) (hl : ms.length = os.length) : ∀ i, i ≤ os.length → Canon (orTo ms os i) ∧ (orTo ms os i).length = ms.length ∧ Le ms (orTo ms os i) ∧ (∀ k, k < i → gd (orTo ms os i) k = gd (orTo ms os i) (gd os k)) ∧
    ∀ ps, ps.length = ms.length → Le ms ps → Le os ps → Le (orTo ms os i) ps
  | 0, _ => ⟨c, rfl, le_refl c, fun k hk => absurd hk (Nat.not_lt_zero k), fun ps _ h _ => h⟩
  | i + 1, hi => by
    obtain ⟨h1, h2, h3, h4, h5⟩ := orTo_ok c d hl i (Nat.le_of_succ_le hi)
    have li : i < (orTo ms os i).length := by omega
    have lo : gd os i < (orTo ms os i).length := by have := d.lt (i := i) (by omega); omega
    rw [orTo_succ]
    have mg : ∀ {j k : Nat}, j < (orTo ms os i).length → k < (orTo ms os i).length → gd (orTo ms os i) j = gd (orTo ms os i) k → gd (mergeM (orTo ms os i) i (gd os i)) j = gd (mergeM (orTo ms os i) i (gd os i)) k := fun hj hk e => by
      rw [gd_merge hj, gd_merge hk, e]
    refine ⟨merge_canon h1 li lo, by rw [merge_len, h2], ?_, ?_, ?_⟩
    · refine le_of_rel c fun j k hj hk e => ?_
      exact mg (by omega) (by omega) (le_rel h3 hj hk e)
    · intro k hk
      have lk : k < os.length := by omega
      have ld := d.lt lk
      by_cases e : k = i
      · subst e
        rw [gd_merge li, gd_merge lo]
        split <;> split <;> omega
      · exact mg (by omega) (by omega) (h4 k (by omega))
    · intro ps hp k1 k2
      have k3 := h5 ps hp k1 k2
      have kk := k2 i (by omega)
      refine le_of_rel (merge_canon h1 li lo) fun j k hj hk e => ?_
      rw [merge_len] at hj hk
      -- the class of i, and of its mark, are one in ps
      have r1 : gd ps (gd (orTo ms os i) i) = gd ps i := (k3 i li).symm
      have r2 : gd ps (gd (orTo ms os i) (gd os i)) = gd ps (gd os i) := (k3 _ lo).symm
      have red : ∀ j, j < (orTo ms os i).length → gd ps (gd (mergeM (orTo ms os i) i (gd os i)) j) = gd ps j := fun j hj => by
        have rj := k3 j hj
        rw [gd_merge hj]
        by_cases e : gd (orTo ms os i) j = max (gd (orTo ms os i) i) (gd (orTo ms os i) (gd os i))
        · rw [if_pos e]
          rw [rj, e]
          rcases Nat.le_total (gd (orTo ms os i) i) (gd (orTo ms os i) (gd os i)) with z | z
          · rw [Nat.min_eq_left z, Nat.max_eq_right z, r1, r2, kk]
          · rw [Nat.min_eq_right z, Nat.max_eq_left z, r1, r2, kk]
        · rw [if_neg e]
          exact rj.symm
      rw [← red j hj, ← red k hk, e]
structure Same3 (ms os ps : List Nat) : Prop where
  l1 : ms.length = os.length
  l2 : ms.length = ps.length
theorem or_canon {ms os : List Nat} (c : Canon ms) (d : Canon os) (hl : ms.length = os.length) : Canon (orM ms os) := (orTo_ok c d hl _ (Nat.le_refl _)).1
theorem or_len {ms os : List Nat} (c : Canon ms) (d : Canon os) (hl : ms.length = os.length) : (orM ms os).length = ms.length := (orTo_ok c d hl _ (Nat.le_refl _)).2.1
theorem or_left {ms os : List Nat} (c : Canon ms) (d : Canon os) (hl : ms.length = os.length) : Le ms (orM ms os) := (orTo_ok c d hl _ (Nat.le_refl _)).2.2.1
theorem or_right {ms os : List Nat} (c : Canon ms) (d : Canon os) (hl : ms.length = os.length) : Le os (orM ms os) := fun i hi => (orTo_ok c d hl _ (Nat.le_refl _)).2.2.2.1 i hi
theorem or_least {ms os ps : List Nat} (c : Canon ms) (d : Canon os) (hl : ms.length = os.length) (hp : ps.length = ms.length) (h1 : Le ms ps) (h2 : Le os ps) : Le (orM ms os) ps := (orTo_ok c d hl _ (Nat.le_refl _)).2.2.2.2 ps hp h1 h2
/-! ### & -/
def andM (ms os : List Nat) : List Nat := (ms.zip os).map fun p => (ms.zip os).idxOf p
theorem and_len {ms os : List Nat} (hl : ms.length = os.length) : (andM ms os).length = ms.length := by
  unfold andM
  rw [List.length_map, List.length_zip]
  omega
theorem zip_at {ms os : List Nat} (hl : ms.length = os.length) {i : Nat} (h : i < ms.length) : (ms.zip os)[i]? = some (gd ms i, gd os i) := by
  unfold gd
  rw [List.getElem?_zip_eq_some, List.getD_eq_getElem?_getD, List.getD_eq_getElem?_getD, List.getElem?_eq_getElem h, List.getElem?_eq_getElem (hl ▸ h)]
  exact ⟨rfl, rfl⟩
theorem gd_and {ms os : List Nat} (hl : ms.length = os.length) {i : Nat} (h : i < ms.length) : gd (andM ms os) i = (ms.zip os).idxOf (gd ms i, gd os i) := by
  have e : gd (andM ms os) i = (((andM ms os)[i]?).getD 0) := by
    unfold gd
    exact List.getD_eq_getElem?_getD ..
  rw [e]
  unfold andM
  rw [List.getElem?_map, zip_at hl h]
  rfl
theorem idxOf_le {α : Type} [BEq α] [LawfulBEq α] {x : α} : ∀ {l : List α} {i : Nat}, l[i]? = some x → l.idxOf x ≤ i
  | [], i, h => by simp at h
  | y :: l, i, h => by
    rw [List.idxOf_cons]
    by_cases e : y = x
    · subst e
      simp
    · have e2 : (y == x) = false := beq_eq_false_iff_ne.mpr e
      rw [e2]
      cases i with
      | zero => exact absurd (Option.some.inj h) e
      | succ i => exact Nat.succ_le_succ (idxOf_le (l := l) h)
theorem idx_spec {ms os : List Nat} (hl : ms.length = os.length) {i : Nat} (h : i < ms.length) : (ms.zip os).idxOf (gd ms i, gd os i) ≤ i ∧ gd ms ((ms.zip os).idxOf (gd ms i, gd os i)) = gd ms i ∧ gd os ((ms.zip os).idxOf (gd ms i, gd os i)) = gd os i := by
  have hz : i < (ms.zip os).length := by rw [List.length_zip]; omega
  have ei : (ms.zip os)[i] = (gd ms i, gd os i) := by
    have e := zip_at hl h
    rw [List.getElem?_eq_getElem hz] at e
    exact Option.some.inj e
  have hm : (gd ms i, gd os i) ∈ ms.zip os := ei ▸ List.getElem_mem hz
  have lt := List.idxOf_lt_length_iff.mpr hm
  have at_ : (ms.zip os)[(ms.zip os).idxOf (gd ms i, gd os i)] = (gd ms i, gd os i) := List.getElem_idxOf lt
  have lt2 : (ms.zip os).idxOf (gd ms i, gd os i) < ms.length := by rw [List.length_zip] at lt; omega
  have e2 := zip_at hl lt2
  rw [List.getElem?_eq_getElem lt, at_] at e2
  have e3 := Option.some.inj e2
  refine ⟨?_, (congrArg Prod.fst e3).symm, (congrArg Prod.snd e3).symm⟩
  exact idxOf_le (zip_at hl h)
theorem and_canon {ms os : List Nat} (c : Canon ms) (hl : ms.length = os.length) : Canon (andM ms os) := by
  refine ⟨by rw [and_len hl]; exact c.lo, by rw [and_len hl]; exact c.hi, fun i hi => ?_, fun i hi => ?_⟩
  · rw [and_len hl] at hi
    rw [gd_and hl hi]
    exact (idx_spec hl hi).1
  · rw [and_len hl] at hi
    obtain ⟨a1, a2, a3⟩ := idx_spec hl hi
    rw [gd_and hl hi, gd_and hl (Nat.lt_of_le_of_lt a1 hi), a2, a3]
theorem and_rel {ms os : List Nat} (hl : ms.length = os.length) {i j : Nat} (hi : i < ms.length) (hj : j < ms.length) : gd (andM ms os) i = gd (andM ms os) j ↔ gd ms i = gd ms j ∧ gd os i = gd os j := by
  obtain ⟨a1, a2, a3⟩ := idx_spec hl hi
  obtain ⟨b1, b2, b3⟩ := idx_spec hl hj
  rw [gd_and hl hi, gd_and hl hj]
  constructor
  · intro e
    rw [e] at a2 a3
    exact ⟨a2.symm.trans b2, a3.symm.trans b3⟩
  · rintro ⟨e1, e2⟩
    rw [e1, e2]
theorem and_left {ms os : List Nat} (c : Canon ms) (hl : ms.length = os.length) : Le (andM ms os) ms := by
  refine le_of_rel (and_canon c hl) fun i j hi hj e => ?_
  rw [and_len hl] at hi hj
  exact ((and_rel hl hi hj).mp e).1
theorem and_right {ms os : List Nat} (c : Canon ms) (hl : ms.length = os.length) : Le (andM ms os) os := by
  refine le_of_rel (and_canon c hl) fun i j hi hj e => ?_
  rw [and_len hl] at hi hj
  exact ((and_rel hl hi hj).mp e).2
theorem and_most {ms os ps : List Nat} (hl : ms.length = os.length) (e : Canon ps) (hp : ps.length = ms.length) (h1 : Le ps ms) (h2 : Le ps os) : Le ps (andM ms os) :=
  le_of_rel e fun i j hi hj q => (and_rel hl (hp ▸ hi) (hp ▸ hj)).mpr ⟨le_rel h1 hi hj q, le_rel h2 hi hj q⟩
/-! ### what the law asks of three of one length -/
theorem bare_canon {n : Nat} (h1 : 3 ≤ n) (h2 : n ≤ 6) : Canon (List.range n) := by
  have g : ∀ i, i < n → gd (List.range n) i = i := fun i hi => by
    unfold gd
    rw [List.getD_eq_getElem?_getD, List.getElem?_range hi]
    rfl
  refine ⟨by rw [List.length_range]; exact h1, by rw [List.length_range]; exact h2, fun i hi => ?_, fun i hi => ?_⟩
  · rw [List.length_range] at hi
    rw [g i hi]
    exact Nat.le_refl i
  · rw [List.length_range] at hi
    rw [g i hi, g i hi]
theorem bare_le {n : Nat} {ms : List Nat} : Le (List.range n) ms := fun i hi => by
  rw [List.length_range] at hi
  unfold gd
  rw [List.getD_eq_getElem?_getD, List.getD_eq_getElem?_getD, List.getD_eq_getElem?_getD, List.getElem?_range hi]
  rfl
/-- two of one length are alike where just the same lie above -/
theorem eq_of_up {ms os : List Nat} (c : Canon ms) (d : Canon os) (hl : ms.length = os.length) (h : ∀ ps, Canon ps → ps.length = ms.length → (Le ms ps ↔ Le os ps)) : ms = os :=
  le_antisymm c d hl ((h os d hl.symm).mpr (le_refl d)) ((h ms c rfl).mp (le_refl c))
theorem eq_of_down {ms os : List Nat} (c : Canon ms) (d : Canon os) (hl : ms.length = os.length) (h : ∀ ps, Canon ps → ps.length = ms.length → (Le ps ms ↔ Le ps os)) : ms = os :=
  le_antisymm c d hl ((h ms c rfl).mp (le_refl c)) ((h os d hl.symm).mpr (le_refl d))
section
variable {a b p : List Nat}
theorem or_iff (c : Canon a) (d : Canon b) (hl : a.length = b.length) (hp : p.length = a.length) : Le (orM a b) p ↔ Le a p ∧ Le b p :=
  ⟨fun h => ⟨le_trans c (or_len c d hl).symm (or_left c d hl) h, le_trans d (by rw [or_len c d hl]; exact hl.symm) (or_right c d hl) h⟩, fun h => or_least c d hl hp h.1 h.2⟩
theorem and_iff (c : Canon a) (d : Canon b) (hl : a.length = b.length) (e : Canon p) (hp : p.length = a.length) : Le p (andM a b) ↔ Le p a ∧ Le p b :=
  ⟨fun h => ⟨le_trans e (by rw [and_len hl]; exact hp) h (and_left c hl), le_trans e (by rw [and_len hl]; exact hp) h (and_right c hl)⟩, fun h => and_most hl e hp h.1 h.2⟩
theorem within_or (c : Canon a) (d : Canon b) (hl : a.length = b.length) (hp : p.length = a.length) : withinB (orM a b) p = (withinB a p && withinB b p) := by
  rw [Bool.eq_iff_iff, Bool.and_eq_true, within_iff, within_iff, within_iff]
  exact or_iff c d hl hp
theorem within_and (c : Canon a) (d : Canon b) (hl : a.length = b.length) (e : Canon p) (hp : p.length = a.length) : withinB p (andM a b) = (withinB p a && withinB p b) := by
  rw [Bool.eq_iff_iff, Bool.and_eq_true, within_iff, within_iff, within_iff]
  exact and_iff c d hl e hp
theorem or_assoc3 (c : Canon a) (d : Canon b) (e : Canon p) (h1 : a.length = b.length) (h2 : a.length = p.length) : orM (orM a b) p = orM a (orM b p) := by
  have h3 : b.length = p.length := h1.symm.trans h2
  have l1 := or_len c d h1
  have l2 := or_len d e h3
  have cab := or_canon c d h1
  have cbp := or_canon d e h3
  refine eq_of_up (or_canon cab e (by omega)) (or_canon c cbp (by omega)) (by rw [or_len cab e (by omega), or_len c cbp (by omega)]; omega) fun q cq hq => ?_
  rw [or_len cab e (by omega)] at hq
  rw [or_iff cab e (by omega) (by omega), or_iff c d h1 (by omega), or_iff c cbp (by omega) (by omega), or_iff d e h3 (by omega)]
  exact and_assoc
theorem and_assoc3 (c : Canon a) (d : Canon b) (e : Canon p) (h1 : a.length = b.length) (h2 : a.length = p.length) : andM (andM a b) p = andM a (andM b p) := by
  have h3 : b.length = p.length := h1.symm.trans h2
  have l1 := and_len (ms := a) (os := b) h1
  have l2 := and_len (ms := b) (os := p) h3
  have cab := and_canon (os := b) c h1
  have cbp := and_canon (os := p) d h3
  have l3 := and_len (ms := andM a b) (os := p) (by omega)
  have l4 := and_len (ms := a) (os := andM b p) (by omega)
  refine eq_of_down (and_canon (os := p) cab (by omega)) (and_canon (os := andM b p) c (by omega)) (by omega) fun q cq hq => ?_
  rw [l3] at hq
  rw [and_iff cab e (by omega) cq (by omega), and_iff c d h1 cq (by omega), and_iff c cbp (by omega) cq (by omega), and_iff d e h3 cq (by omega)]
  exact and_assoc
theorem or_and_self (c : Canon a) (d : Canon b) (hl : a.length = b.length) : orM a (andM a b) = a := by
  have l := and_len (ms := a) (os := b) hl
  have k := and_canon (os := b) c hl
  refine le_antisymm (or_canon c k (by omega)) c (or_len c k (by omega)) ?_ (or_left c k (by omega))
  exact or_least c k (by omega) rfl (le_refl c) (and_left c hl)
theorem and_or_self (c : Canon a) (d : Canon b) (hl : a.length = b.length) : andM a (orM a b) = a := by
  have l := or_len c d hl
  have k := or_canon c d hl
  refine le_antisymm (and_canon c (by omega)) c (and_len (by omega)) (and_left c (by omega)) ?_
  exact and_most (by omega) c rfl (le_refl c) (or_left c d hl)
theorem or_bare (c : Canon a) : orM a (List.range a.length) = a := by
  have k := bare_canon c.lo c.hi
  refine le_antisymm (or_canon c k (by rw [List.length_range])) c (or_len c k (by rw [List.length_range])) ?_ (or_left c k (by rw [List.length_range]))
  exact or_least c k (by rw [List.length_range]) rfl (le_refl c) bare_le
theorem and_bare (c : Canon a) : andM a (List.range a.length) = List.range a.length := by
  have k := bare_canon c.lo c.hi
  refine le_antisymm (and_canon c (by rw [List.length_range])) k (by rw [and_len (by rw [List.length_range]), List.length_range]) (and_right c (by rw [List.length_range])) bare_le
end
end K02

set_option Elab.async false
set_option linter.all false
set_option maxRecDepth 100000
set_option maxHeartbeats 4000000
namespace K02
open PySem PySem.Spec PyProof.Rows L2 Lw
section
variable {P : Program} {w : World} {K : PySem.W.Frag} {mg : Str → Option Value} {base : Heap}
theorem same_updN {H : Hp} {p : Addr} {o : HO} (n : H p = none) : Same H (upd H p o) := fun b u e => by
  rw [upd_ne (ne_of_none e n)]
  exact e
/-- Standing(t), t the marks of a standing -/
theorem mk_fin {H1 : Hp} {Q : VK} {t : Addr} {ms : List Nat} (hs : SqT K H1 t (mv ms)) (c : Canon ms) (q : ∀ (x : Addr) (H' : Hp), Same H1 H' → H1 x = none → StAt K H' x ms → Q (.ref x) H') :
    ∀ x dx, H1 x = none → H1 dx = none → dx ≠ x → spInit K (.ref x :: ([.ref t] ++ [])) (upd (upd H1 dx (.own x)) x (.ins (cS K) dx [])) (fun v H2 => v = .non ∧ Q (.ref x) H2) E0 := by
  intro x dx nx ndx ne
  have k0 : Same H1 (upd (upd H1 dx (.own x)) x (.ins (cS K) dx [])) := fun b o e => by
    rw [upd_ne (ne_of_none e nx), upd_ne (ne_of_none e ndx)]
    exact e
  refine ⟨x, dx, t, ms, rfl, upd_same, sqT_same k0 hs, c, fun H' k1 k2 => ⟨rfl, ?_⟩⟩
  have k3 : Same H1 H' := fun b o e => k1 _ _ (ne_of_none e nx) (k0 _ _ e)
  exact q x H' k3 nx ⟨dx, t, k2, sqT_same k3 hs⟩
/-! ### within -/
def spWithin (K : PySem.W.Frag) : Sp := fun vs H Q _ => ∃ (a b : Addr) (ms os : List Nat), vs = [.ref a, .ref b] ∧ StAt K H a ms ∧ StAt K H b os ∧ Canon ms ∧ ms.length = os.length ∧ ∀ H', Same H H' → Q (.bl (withinB ms os)) H'
theorem ok_Within {f : Addr} {fd : FuncData} (T : Txt K mg) (F : FnP K "within" "Standing.within" sWithin f fd) (GChk : Pr P w K mg base 3 (ga K "check_wires") ["one", "other"] (spChk K)) (GCont : Pr P w K mg base 2 (ma K (cS K) "__contains__") ["self", "value"] (spCont K)) :
    Pr P w K mg base 4 f ["self", "other"] (spWithin K) := by
  refine .of (F.ok scWithin (fun vs H Q E h => ?_) (fun cdv A outer s H vs Q E hr h => ⟨_, PSs.nox (pss_cons (ps_expr (pcl GChk (hr.mono (by decide)) rfl (T.gl "check_wires" (by decide +kernel)) (pa_cons (pv 0) (pa_cons (pv 1) pa_nil)))) (pss_one (ps_ret (pe_callB (cr_all rfl) rfl (T.free _ (by decide +kernel)) (by decide +kernel) (pa_cons (pe_lc (own := [("at", 2), ("mark", 3)]) (g := _) (tt := tYes) rfl scWithin.nd (pi_enumT rfl (T.free _ (by decide +kernel)) (pa_cons (fldK K (pv 0)) pa_nil)) (blkOk_by (N := nWithin) (sc := defScope sWithin) (by decide +kernel)) (fun _ _ _ _ _ => (tupG K 2 (pgs_cons (pg_name (i := 2) scWithin.nd rfl (Or.inl rfl)) (pgs_cons (pg_name (i := 3) scWithin.nd rfl (Or.inl rfl)) pgs_nil)))) (fun _ _ _ _ _ => pts_nil) (fun _ _ _ _ _ => (pe_cmpR (opIn (T.at_ "__contains__" (by decide +kernel)) (T.fn "__contains__" (by decide +kernel)) GCont (hr.mono (by decide))) (pe_tup (pa_cons (pv 2) (pa_cons (pv 3) pa_nil))) (pv 1) (by with_unfolding_all rfl)))) pa_nil))))), ?_⟩)) (F.bindsN fun _ _ _ _ _ _ us hl => match us, hl with | [_, _], _ => rfl) F.kp
  · obtain ⟨a, b, ms, os, rfl, _⟩ := h
    rfl
  · obtain ⟨a, b, ms, os, rfl, ha, hb, c, hl, q⟩ := h
    have big := big_line
    have c6 := c.hi
    obtain ⟨dx, t, ea, hs⟩ := id ha
    obtain ⟨dy, u, eb, hu⟩ := id hb
    refine ⟨_, rfl, _, rfl, a, b, ms, os, rfl, ha, hb, hl, ?_⟩
    refine ⟨_, rfl, a, _, dx, _, _, rfl, ea, T.cls, T.nof, rfl, t, mv ms, rfl, hs, fun D hD => lc_it (walk_enumT (K := K) (a := t) (xs := mv ms)) (fun i H' => H' D = some (.lst (((List.range i).map fun k => gd os k == gd os (gd ms k)).map V.bl)) ∧ Same H H') ⟨upd_same, fun b o e => by rw [upd_ne (ne_of_none e hD)]; exact e⟩ (fun i H' _ z => sqT_same z.2 hs) ?_ ?_⟩
    · rintro i x H1 H2 hi ⟨h1, s1⟩ ⟨T0, n0, y0, rfl, hT, rfl, e1, e2⟩
      cases (show V.int (i : Nat) = n0 from Option.some.inj e1)
      rw [mv_len] at hi
      cases (show V.int (gd ms i : Nat) = y0 from Option.some.inj ((mv_get hi).symm.trans e2))
      have s2 : Same H (upd H1 T0 (.tup [V.int (i : Nat), V.int (gd ms i : Nat)])) := s1.trans fun b o e => by rw [upd_ne (ne_of_none e hT)]; exact e
      have le := c.le i hi
      refine ⟨T0, _, rfl, SqT.of upd_same, rfl, _, _, rfl, _, _, rfl, rfl, rfl, _, rfl, _, rfl, by show 2 ≤ sizeLine; omega, fun p hp => ?_⟩
      have s3 := s2.trans (same_updN (o := .tup [V.int (i : Nat), V.int (gd ms i : Nat)]) hp)
      refine ⟨_, rfl, b, dy, _, rfl, s3 _ _ eb, b, p, os, i, gd ms i, rfl, hb.same s3, by omega, SqT.of upd_same, by omega, by omega, fun H4 s4 => ⟨_, rfl, ?_⟩⟩
      have hD2 : H4 D = some (.lst (((List.range i).map fun k => gd os k == gd os (gd ms k)).map V.bl)) := s4 _ _ (by
        have n1 : D ≠ p := fun z => by
          rw [← z, upd_ne (fun z2 : D = T0 => by rw [z2, hT] at h1; cases h1), h1] at hp
          cases hp
        rw [upd_ne n1, upd_ne (fun z2 : D = T0 => by rw [z2, hT] at h1; cases h1)]
        exact h1)
      refine ⟨_, hD2, by rw [List.length_map, List.length_map, List.length_range]; omega, ?_, fun c o e => ?_⟩
      · rw [upd_same, List.range_succ, List.map_append, List.map_append]
        rfl
      · rw [upd_ne (ne_of_none e hD)]
        exact s4 _ _ (s3 _ _ e)
    · rintro H1 ⟨h1, s1⟩
      rw [mv_len] at h1
      refine ⟨D, _, rfl, SqL.of h1, ?_⟩
      have e : ((List.range ms.length).map fun k => gd os k == gd os (gd ms k)).all id = withinB ms os := by
        unfold withinB
        rw [List.all_map]
        rfl
      rw [e]
      exact q _ s1
/-! ### | -/
def spOr (K : PySem.W.Frag) : Sp := fun vs H Q _ => ∃ (a b : Addr) (ms os : List Nat), vs = [.ref a, .ref b] ∧ StAt K H a ms ∧ StAt K H b os ∧ Canon ms ∧ Canon os ∧ ms.length = os.length ∧ ∀ (x : Addr) (H' : Hp), Same H H' → H x = none → StAt K H' x (orM ms os) → Q (.ref x) H'
theorem ok_Or {f : Addr} {fd : FuncData} (T : Txt K mg) (F : FnP K "__or__" "Standing.__or__" sOr f fd) (GChk : Pr P w K mg base 3 (ga K "check_wires") ["one", "other"] (spChk K)) (GMarks : Pr P w K mg base 1 (He5.wf K (cS K) "property" "marks") ["self"] (spMarks K))
    (GMrg : Pr P w K mg base 1 (ga K "merged") ["marks", "one", "other"] (spMrg K)) (GInit : Pr P w K mg base 3 (ma K (cS K) "__init__") ["self", "marks"] (spInit K)) : Pr P w K mg base 5 f ["self", "other"] (spOr K) := by
  refine .of (F.ok scOr (fun vs H Q E h => ?_) (fun cdv A outer s H vs Q E hr h => ⟨_, PSs.nox (pss_cons (ps_expr (pcl GChk (hr.mono (by decide)) rfl (T.gl "check_wires" (by decide +kernel)) (pa_cons (pv 0) (pa_cons (pv 1) pa_nil)))) (pss_cons (ps_set (i := 2) scOr.nd rfl (Or.inl rfl) (fldK K (pv 0))) (pss_cons (ps_for PassesOwn.never rfl (pi_enumT rfl (T.free _ (by decide +kernel)) (pa_cons (ppr (pv 1) T.cls T.pMarks GMarks (hr.mono (by decide))) pa_nil)) (tupG K 2 (pgs_cons (pg_name (i := 3) scOr.nd rfl (Or.inl rfl)) (pgs_cons (pg_name (i := 4) scOr.nd rfl (Or.inl rfl)) pgs_nil))) (pss_one (ps_set (i := 2) scOr.nd rfl (Or.inl rfl) (pcl GMrg (hr.mono (by decide)) rfl (T.gl "merged" (by decide +kernel)) (pa_cons (pv 2) (pa_cons (pv 3) (pa_cons (pv 4) pa_nil))))))) (pss_one (ps_ret (pmk T.mkr GInit (hr.mono (by decide)) rfl T.gS (pa_cons (pv 2) pa_nil))))))), ?_⟩)) (F.bindsN fun _ _ _ _ _ _ us hl => match us, hl with | [_, _], _ => rfl) F.kp
  · obtain ⟨a, b, ms, os, rfl, _⟩ := h
    rfl
  · obtain ⟨a, b, ms, os, rfl, ha, hb, c, d, hl, q⟩ := h
    have big := big_line
    have c6 := c.hi
    obtain ⟨dx, t, ea, hs⟩ := id ha
    obtain ⟨dy, u, eb, hu⟩ := id hb
    refine ⟨_, rfl, _, rfl, a, b, ms, os, rfl, ha, hb, hl, ?_⟩
    dsimp only
    refine seq_reads (set_reads ⟨_, rfl, a, _, dx, _, _, rfl, ea, T.cls, T.nof, rfl, ?_⟩)
    dsimp only
    refine ⟨_, rfl, b, dy, _, rfl, eb, b, dy, u, rfl, eb, u, mv os, rfl, hu, ?_⟩
    refine for_it (walk_enumT (K := K) (a := u) (xs := mv os)) (fun i σ H' => ∃ (t' : Addr) (s1 s2 : Option V), σ = [some (.ref a), some (.ref b), some (.ref t'), s1, s2] ∧ SqT K H' t' (mv (orTo ms os i)) ∧ Same H H') ⟨t, none, none, rfl, hs, Same.refl _⟩ (fun i σ H' _ ⟨_, _, _, _, _, sm⟩ => sqT_same sm hu) ?_ ?_
    · rintro i y σ H2 H3 hi ⟨t', z1, z2, rfl, ht, sm⟩ ⟨T0, n0, y0, rfl, hT, rfl, e1, e2⟩
      cases (show V.int (i : Nat) = n0 from Option.some.inj e1)
      rw [mv_len] at hi
      cases (show V.int (gd os i : Nat) = y0 from Option.some.inj ((mv_get hi).symm.trans e2))
      have s0 := same_updN (o := .tup [V.int (i : Nat), V.int (gd os i : Nat)]) hT
      obtain ⟨k1, k2, _⟩ := orTo_ok c d hl i (Nat.le_of_lt hi)
      have dl := d.lt hi
      refine ⟨T0, _, rfl, SqT.of upd_same, rfl, _, _, rfl, _, _, rfl, rfl, ?_⟩
      refine ⟨_, rfl, _, rfl, _, rfl, t', orTo ms os i, i, gd os i, rfl, sqT_same s0 ht, k1.hi, by omega, by omega, fun t2 H4 s4 h4 => ?_⟩
      refine ⟨t2, _, _, rfl, SqT.of (by rw [h4, orTo_succ]), sm.trans (s0.trans s4)⟩
    · rintro σ H2 ⟨t', z1, z2, rfl, ht, sm⟩
      rw [mv_len] at ht
      exact ⟨_, rfl, mk_fin (t := t') (ms := orM ms os) ht (or_canon c d hl) fun x H' s1 nx st => q x H' (sm.trans s1) (sm.free nx) st⟩
end
end K02

set_option Elab.async false
set_option linter.all false
set_option maxRecDepth 100000
set_option maxHeartbeats 4000000
namespace K02
open PySem PySem.Spec PyProof.Rows L2 Lw
/-! ### pairs as data -/
def pdP (p : Nat × Nat) : PyData := .tuple [.int (p.1 : Nat), .int (p.2 : Nat)]
theorem eqv_pd (p r : Nat × Nat) : PyData.eqv (pdP p) (pdP r) = decide (p = r) := by
  obtain ⟨a, b⟩ := p
  obtain ⟨c, d⟩ := r
  unfold pdP
  rw [Bool.eq_iff_iff]
  simp [PyData.eqv, PyData.eqvAll]
  omega
theorem lay_pd : ∀ ps : List (Nat × Nat), PyData.canLayAll0 (ps.map pdP) = true
  | [] => rfl
  | p :: ps => by
    rw [List.map_cons, PyData.canLayAll0, lay_pd ps]
    rfl
theorem depth_pd : ∀ ps : List (Nat × Nat), PyData.depthAll (ps.map pdP) ≤ 1
  | [] => by simp [PyData.depthAll]
  | p :: ps => by
    rw [List.map_cons, PyData.depthAll]
    have h1 := depth_pd ps
    have h2 : (pdP p).depth = 1 := by simp [pdP, PyData.depth, PyData.depthAll]
    omega
theorem shaped_pds (ps : List (Nat × Nat)) : SeqAt.shaped (.list (ps.map pdP)) = true := by
  show (PyData.canLay0 (.list (ps.map pdP)) && decide (PyData.depth (.list (ps.map pdP)) ≤ 64)) = true
  rw [Bool.and_eq_true]
  refine ⟨by simp only [PyData.canLay0]; exact lay_pd ps, decide_eq_true ?_⟩
  simp only [PyData.depth]
  have h := depth_pd ps
  omega
theorem shaped_pd (p : Nat × Nat) : SeqAt.shaped (pdP p) = true := by
  show (PyData.canLay0 (pdP p) && decide (PyData.depth (pdP p) ≤ 64)) = true
  simp [pdP, PyData.canLay0, PyData.canLayAll0, PyData.depth, PyData.depthAll]
theorem pairs_dp {K : PySem.W.Frag} {H H' : Hp} : ∀ {Ts : List Addr} {ms os : List Nat}, PairsAt H H' Ts ((mv ms).zip (mv os)) → DpAll K H' (Ts.map V.ref) ((ms.zip os).map pdP)
  | _, [], os, h => by cases h; exact .nil
  | _, _ :: _, [], h => by cases h; exact .nil
  | _, m :: ms, o :: os, h => by
    cases h with
    | cons r t => exact .cons (.tup (SqT.of r.2) (.cons (.int m) (.cons (.int o) .nil))) (pairs_dp t)
section
variable {P : Program} {w : World} {K : PySem.W.Frag} {mg : Str → Option Value} {base : Heap}
def spAnd (K : PySem.W.Frag) : Sp := fun vs H Q _ => ∃ (a b : Addr) (ms os : List Nat), vs = [.ref a, .ref b] ∧ StAt K H a ms ∧ StAt K H b os ∧ Canon ms ∧ Canon os ∧ ms.length = os.length ∧ ∀ (x : Addr) (H' : Hp), Same H H' → H x = none → StAt K H' x (andM ms os) → Q (.ref x) H'
theorem ok_And {f : Addr} {fd : FuncData} (T : Txt K mg) (F : FnP K "__and__" "Standing.__and__" sAnd f fd) (GChk : Pr P w K mg base 3 (ga K "check_wires") ["one", "other"] (spChk K)) (GMarks : Pr P w K mg base 1 (He5.wf K (cS K) "property" "marks") ["self"] (spMarks K))
    (GInit : Pr P w K mg base 3 (ma K (cS K) "__init__") ["self", "marks"] (spInit K)) : Pr P w K mg base 5 f ["self", "other"] (spAnd K) := by
  refine .of (F.ok scAnd (fun vs H Q E h => ?_) (fun cdv A outer s H vs Q E hr h => ⟨_, PSs.nox (pss_cons (ps_expr (pcl GChk (hr.mono (by decide)) rfl (T.gl "check_wires" (by decide +kernel)) (pa_cons (pv 0) (pa_cons (pv 1) pa_nil)))) (pss_cons (ps_set (i := 2) scAnd.nd rfl (Or.inr rfl) (pe_listZip rfl rfl (T.free _ (by decide +kernel)) rfl (T.free _ (by decide +kernel)) (pa_cons (fldK K (pv 0)) (pa_cons (ppr (pv 1) T.cls T.pMarks GMarks (hr.mono (by decide))) pa_nil)))) (pss_one (ps_ret (pmk T.mkr GInit (hr.mono (by decide)) rfl T.gS (pa_cons (pe_callTy call_tuple_of rfl (T.free _ (by decide +kernel)) (by decide +kernel) (pa_cons (pe_lc (own := [("pair", 3)]) (g := gName 3) (tt := tYes) rfl scAnd.nd (pi_list (pv 2)) (blkOk_by (N := nAnd) (sc := defScope sAnd) (by decide +kernel)) (fun _ _ _ _ _ => (pg_name (i := 3) scAnd.nd rfl (Or.inl rfl))) (fun _ _ _ _ _ => pts_nil) (fun _ _ _ _ _ => (bmK K PySem.F.plainAttrs_list PySem.F.slot_list_index PySem.F.type_list_index (idxK K (by have := hr.un; show (A.deeper _).units + 65 < cLine; omega)) (pv 2) (pa_cons (pv 3) pa_nil)))) pa_nil)) pa_nil)))))), ?_⟩)) (F.bindsN fun _ _ _ _ _ _ us hl => match us, hl with | [_, _], _ => rfl) F.kp
  · obtain ⟨a, b, ms, os, rfl, _⟩ := h
    rfl
  · obtain ⟨a, b, ms, os, rfl, ha, hb, c, d, hl, q⟩ := h
    have big := big_line
    have c6 := c.hi
    obtain ⟨dx, t, ea, hs⟩ := id ha
    obtain ⟨dy, u, eb, hu⟩ := id hb
    refine ⟨_, rfl, _, rfl, a, b, ms, os, rfl, ha, hb, hl, ?_⟩
    dsimp only
    refine seq_reads (set_reads ⟨_, rfl, a, _, dx, _, _, rfl, ea, T.cls, T.nof, rfl, _, rfl, b, dy, _, rfl, eb, b, dy, u, rfl, eb, t, u, mv ms, mv os, rfl, hs, hu, by rw [mv_len, mv_len]; exact hl, by rw [mv_len]; omega, fun l Ts H2 s2 nl hl2 hP => ?_⟩)
    dsimp only
    have lenT : Ts.length = ms.length := by
      have e := paired_len hP
      rw [List.length_zip, mv_len, mv_len] at e
      omega
    have lenZ : (ms.zip os).length = ms.length := by rw [List.length_zip]; omega
    refine ⟨_, rfl, l, rfl, ⟨_, SqL.of hl2⟩, fun D hD => lc_list (K := K) (a := l) (xs := Ts.map V.ref) (fun i H' => H' D = some (.lst ((mv (andM ms os)).take i)) ∧ Same H2 H') ⟨upd_same, same_updN hD⟩ (fun i H' _ z => SqL.of (z.2 _ _ hl2)) ?_ ?_⟩
    · rintro i x H3 hx ⟨h1, s1⟩
      have hi : i < ms.length := by
        have e := (List.getElem?_eq_some_iff.mp hx).1
        rw [List.length_map] at e
        omega
      rw [List.getElem?_map] at hx
      obtain ⟨Ti, hTi, rfl⟩ := Option.map_eq_some_iff.mp hx
      have hP3 : PairsAt H H3 Ts ((mv ms).zip (mv os)) := hP.same fun T x _ e => s1 _ _ e
      obtain ⟨pr, hpr, np, ep⟩ := Lw.paired_get hP3 hTi
      have hz : ((mv ms).zip (mv os))[i]? = some (V.int (gd ms i : Nat), V.int (gd os i : Nat)) := by
        rw [List.getElem?_zip_eq_some]
        exact ⟨mv_get hi, mv_get (hl ▸ hi)⟩
      cases Option.some.inj (hpr.symm.trans hz)
      obtain ⟨j1, j2, j3⟩ := idx_spec hl hi
      have jl : (ms.zip os).idxOf (gd ms i, gd os i) < ms.length := by omega
      refine ⟨rfl, _, rfl, .inl ⟨rfl, _, SqL.of (s1 _ _ hl2)⟩, _, rfl, l, .ref Ti, pdP (gd ms i, gd os i), (ms.zip os).map pdP, (ms.zip os).idxOf (gd ms i, gd os i), pdP (gd ms i, gd os i), rfl, rfl, .lst (SqL.of (s1 _ _ hl2)) (pairs_dp hP3), .tup (SqT.of ep) (.cons (.int _) (.cons (.int _) .nil)), shaped_pds _, shaped_pd _, ?_, ?_, ?_, ?_⟩
      · rw [List.getElem?_map, zip_at hl jl, j2, j3]
        rfl
      · rw [eqv_pd]
        exact decide_eq_true rfl
      · intro m z' hm hz'
        rw [List.getElem?_map] at hz'
        obtain ⟨pz, hpz, rfl⟩ := Option.map_eq_some_iff.mp hz'
        rw [eqv_pd]
        refine decide_eq_false fun e => ?_
        have le := idxOf_le (x := (gd ms i, gd os i)) (e ▸ hpz)
        omega
      · have lenA : (mv (andM ms os)).length = ms.length := by rw [mv_len, and_len hl]
        refine ⟨_, h1, by rw [List.length_take, lenA]; omega, ?_, fun c o e => ?_⟩
        · rw [upd_same, List.take_succ, mv_get (by rw [and_len hl]; exact hi), gd_and hl hi]
          rfl
        · rw [upd_ne (ne_of_none e hD)]
          exact s1 _ _ e
    · rintro H3 ⟨h1, s1⟩
      have lenA : (mv (andM ms os)).length = (Ts.map V.ref).length := by rw [mv_len, and_len hl, List.length_map, lenT]
      rw [← lenA, List.take_length] at h1
      refine ⟨D, _, rfl, .inl ⟨SqL.of h1, fun p hp => mk_fin (t := p) (ms := andM ms os) (SqT.of upd_same) (and_canon c hl) fun x H' s4 nx st => ?_⟩⟩
      have s5 : Same H (upd H3 p (.tup (mv (andM ms os)))) := (s2.trans s1).trans (same_updN hp)
      exact q x H' (s5.trans s4) (s5.free nx) st
end
end K02

set_option Elab.async false
set_option linter.all false
set_option maxRecDepth 100000
set_option maxHeartbeats 4000000
namespace K02
open PySem PySem.Spec PyProof.Rows L2 Lw
abbrev sPot : Stmt := top 15
abbrev nPot : List Str := ["_law_script", "_law_place", "_law_cell", "_law_own", "_law_small"]
theorem scPot : FnScope nPot ["_law_script", "_law_place"] (defScope sPot) := ⟨rfl, rfl, rfl, by decide +kernel, rfl, by decide +kernel, by decide +kernel⟩
abbrev sTake : Stmt := top 16
abbrev nTake : List Str := ["_law_pot_here", "_law_upto", "_law_digit", "_law_prime", "_law_mixed"]
theorem scTake : FnScope nTake ["_law_pot_here", "_law_upto"] (defScope sTake) := ⟨rfl, rfl, rfl, by decide +kernel, rfl, by decide +kernel, by decide +kernel⟩
abbrev sOf : Stmt := top 17
abbrev nOf : List Str := ["_law_pot_here", "_law_some"]
theorem scOf : FnScope nOf ["_law_pot_here", "_law_some"] (defScope sOf) := ⟨rfl, rfl, rfl, by decide +kernel, rfl, by decide +kernel, by decide +kernel⟩
abbrev sCells : Stmt := top 18
abbrev nCells : List Str := ["_law_script", "_law_limit"]
theorem scCells : FnScope nCells ["_law_script", "_law_limit"] (defScope sCells) := ⟨rfl, rfl, rfl, by decide +kernel, rfl, by decide +kernel, by decide +kernel⟩
/-- all but the object at q are as they were -/
def Keep (q : Addr) (H H' : Hp) : Prop := ∀ b o, b ≠ q → H b = some o → H' b = some o
theorem Keep.refl (q : Addr) (H : Hp) : Keep q H H := fun _ _ _ e => e
theorem Keep.trans {q : Addr} {H H' H'' : Hp} (a : Keep q H H') (b : Keep q H' H'') : Keep q H H'' := fun c o n e => b c o n (a c o n e)
theorem Keep.of {q : Addr} {H H' : Hp} (s : Same H H') : Keep q H H' := fun c o _ e => s c o e
/-- draws of one cell, at most n of them mixed ones -/
def PotAt (H : Hp) (q : Addr) (n : Nat) : Prop := ∃ own m k : Int, H q = some (.lst [.int own, .int m, .int k]) ∧ 0 ≤ own ∧ own < 10 ^ 300 ∧ 0 ≤ m ∧ m < 2305843009213693921 ∧ 0 ≤ k ∧ k ≤ n
theorem PotAt.same {H H' : Hp} {q : Addr} {n : Nat} (h : PotAt H q n) (s : Same H H') : PotAt H' q n := by
  obtain ⟨own, m, k, e, r⟩ := h
  exact ⟨own, m, k, s _ _ e, r⟩
theorem PotAt.mono {H : Hp} {q : Addr} {n n' : Nat} (h : PotAt H q n) (l : n ≤ n') : PotAt H q n' := by
  obtain ⟨own, m, k, e, a, b, c, d, x, y⟩ := h
  exact ⟨own, m, k, e, a, b, c, d, x, by omega⟩
section
variable {P : Program} {w : World} {K : PySem.W.Frag} {mg : Str → Option Value} {base : Heap}
def spPot (K : PySem.W.Frag) : Sp := fun vs H Q _ => ∃ (a : Addr) (ns : List Int) (p : Nat), vs = [.ref a, .int (p : Nat)] ∧ SqL K H a (ns.map V.int) ∧ p < 64 ∧ ∀ (q : Addr) (H' : Hp), Same H H' → H q = none → PotAt H' q 0 → Q (.ref q) H'
theorem ok_Pot {f : Addr} {fd : FuncData} (T : Txt K mg) (F : FnP K "_law_pot" "_law_pot" sPot f fd) : Pr P w K mg base 1 f ["_law_script", "_law_place"] (spPot K) := by
  refine .of (F.ok scPot (fun vs H Q E h => ?_) (fun cdv A outer s H vs Q E hr h => ⟨_, PSs.nox (pss_cons (ps_set (i := 2) scPot.nd rfl (Or.inl rfl) (pe_ifExp (pt_cmpR op_lt (pv 1) (pe_callB (lenK K) rfl (T.free _ (by decide +kernel)) (by decide +kernel) (pa_cons (pv 0) pa_nil)) (nomark _)) (pe_ix (ixL K) (pv 0) (pv 1) (fun _ _ => rfl)) (pe_op op_add (pe_op op_mul pe_int (pv 1)) pe_int))) (pss_cons (ps_set (i := 3) scPot.nd rfl (Or.inl rfl) (pe_op op_mul (pe_op op_mod (pe_callTy call_int1 rfl (T.free _ (by decide +kernel)) (by decide +kernel) (pa_cons (pe_callB call_abs rfl (T.free _ (by decide +kernel)) (by decide +kernel) (pa_cons (pv 2) pa_nil)) pa_nil)) (pe_op op_powB (pe_op op_pow pe_int pe_int) pe_int)) (pe_callTy call_int1 rfl (T.free _ (by decide +kernel)) (by decide +kernel) (pa_cons (pe_cmpR op_ge (pe_callB call_abs rfl (T.free _ (by decide +kernel)) (by decide +kernel) (pa_cons (pv 2) pa_nil)) (pe_op op_pow pe_int pe_int) (nomark _)) pa_nil)))) (pss_cons (ps_set (i := 4) scPot.nd rfl (Or.inl rfl) (pe_op op_mod (pe_callTy call_int1 rfl (T.free _ (by decide +kernel)) (by decide +kernel) (pa_cons (pv 2) pa_nil)) pe_int)) (pss_one (ps_ret (pe_lst (pa_cons (pv 3) (pa_cons (pe_op op_mod (pe_callTy call_int1 rfl (T.free _ (by decide +kernel)) (by decide +kernel) (pa_cons (pe_op op_add (pe_op op_add (pe_op op_mul (pv 4) pe_int) (pe_op op_mul (pe_op op_mul pe_int (pv 1)) (pv 1))) pe_int) pa_nil)) pe_int) (pa_cons pe_int pa_nil))))))))), ?_⟩)) (F.bindsN fun _ _ _ _ _ _ us hl => match us, hl with | [_, _], _ => rfl) F.kp
  · obtain ⟨a, ns, p, rfl, _⟩ := h
    rfl
  · obtain ⟨a, ns, p, rfl, hs, hp, q⟩ := h
    have big := big_line
    refine seq_reads (set_reads (if_int (fun cell => ?_) fun hz => ⟨_, rfl, _, rfl, a, _, rfl, .inl hs, _, _, rfl, rfl, _, rfl, ?_⟩))
    · dsimp only
      have b1 : (0 : Int) ≤ (if cell < 0 then -cell else cell) % (10 ^ 60) ^ 5 := Int.emod_nonneg _ (by decide +kernel)
      have b2 : (if cell < 0 then -cell else cell) % (10 ^ 60) ^ 5 < (10 ^ 60) ^ 5 := Int.emod_lt_of_pos _ (by decide +kernel)
      have b3 : (0 : Int) ≤ cell % 2305843009213693951 := Int.emod_nonneg _ (by decide)
      have b4 : cell % 2305843009213693951 < 2305843009213693951 := Int.emod_lt_of_pos _ (by decide)
      refine seq_reads (set_reads ⟨_, rfl, _, rfl, .inl ⟨_, rfl, 10, 60, rfl, rfl, ⟨by decide, by decide, by decide⟩, _, 5, rfl, rfl, ⟨by decide, by decide +kernel⟩, _, _, rfl, rfl, (by show (0 : Int) < (10 ^ 60) ^ 5; decide +kernel), _, rfl, _, rfl, 10, 18, rfl, rfl, ⟨by decide, by decide, by decide⟩, _, _, rfl, rfl, .inr ⟨_, rfl, ?_⟩⟩⟩)
      have f1 : ∀ c : Bool, -(2 ^ 64) < (if c = true then (1 : Int) else 0) ∧ (if c = true then (1 : Int) else 0) < 2 ^ 64 := by decide
      have f2 : ∀ (x : Int) (c : Bool), 0 ≤ x → x < (10 ^ 60) ^ 5 → 0 ≤ x * (if c = true then (1 : Int) else 0) ∧ x * (if c = true then (1 : Int) else 0) < 10 ^ 300 := fun x c h0 h1 => by
        have e : ((10 : Int) ^ 60) ^ 5 = 10 ^ 300 := by decide +kernel
        rw [e] at h1
        cases c with
        | true => rw [if_pos rfl, Int.mul_one]; exact ⟨h0, h1⟩
        | false => rw [if_neg Bool.false_ne_true, Int.mul_zero]; exact ⟨Int.le_refl 0, by decide +kernel⟩
      refine ⟨_, _, rfl, rfl, .inr (f1 _), ?_⟩
      obtain ⟨o1, o2⟩ := f2 _ (decide (10 ^ Int.toNat 18 ≤ if cell < 0 then -cell else cell)) b1 b2
      dsimp only
      refine seq_reads (set_reads ⟨_, rfl, .inl ⟨_, rfl, _, _, rfl, rfl, (by show (0 : Int) < 2305843009213693951; decide), ?_⟩⟩)
      dsimp only
      refine ⟨_, rfl, _, rfl, _, _, rfl, rfl, .inl ⟨by omega, by omega⟩, _, rfl, _, _, rfl, rfl, .inl ⟨by decide, by decide⟩, _, rfl, _, _, rfl, rfl, .inl ⟨by omega, by omega⟩, _, _, rfl, rfl, _, _, rfl, rfl, .inl ⟨_, rfl, _, _, rfl, rfl, (by show (0 : Int) < 2305843009213693921; decide), by show 3 ≤ sizeLine; omega, fun l nl => ?_⟩⟩
      exact q l _ (same_updN nl) nl ⟨_, _, 0, upd_same, o1, o2, Int.emod_nonneg _ (by decide), Int.emod_lt_of_pos _ (by decide), Int.le_refl 0, Int.le_refl 0⟩
    · by_cases h : p < ns.length
      · refine ifT (decide_eq_true (by rw [List.length_map]; omega)) ⟨_, rfl, _, rfl, a, _, _, _, rfl, rfl, hs, atI_nat (List.getElem?_eq_getElem (by rw [List.length_map]; exact h)), ?_⟩
        rw [List.getElem_map]
        exact hz _
      · exact ifF (decide_eq_false (by rw [List.length_map]; omega)) ⟨_, rfl, _, _, rfl, rfl, .inl ⟨by decide, by decide⟩, _, _, rfl, rfl, hz _⟩
theorem prime_at (r : Int) (h0 : 0 ≤ r) (h1 : r < 5) : ∃ v : Int, atI [V.int 2147483647, V.int 2147483629, V.int 2147483587, V.int 2147483579, V.int 2147483563] r = some (.int v) ∧ 0 < v ∧ v < 2147483648 := by
  have h : r = 0 ∨ r = 1 ∨ r = 2 ∨ r = 3 ∨ r = 4 := by omega
  rcases h with rfl | rfl | rfl | rfl | rfl
  · exact ⟨_, atI_nat (j := 0) rfl, by decide, by decide⟩
  · exact ⟨_, atI_nat (j := 1) rfl, by decide, by decide⟩
  · exact ⟨_, atI_nat (j := 2) rfl, by decide, by decide⟩
  · exact ⟨_, atI_nat (j := 3) rfl, by decide, by decide⟩
  · exact ⟨_, atI_nat (j := 4) rfl, by decide, by decide⟩
def spTake (K : PySem.W.Frag) : Sp := fun vs H Q _ => ∃ (q : Addr) (u : Int) (n : Nat), vs = [.ref q, .int u] ∧ PotAt H q n ∧ n < 100000 ∧ 0 < u ∧ u < 1000000 ∧ ∀ (d : Int) (H' : Hp), Keep q H H' → PotAt H' q (n + 1) → 0 ≤ d → d < u → Q (.int d) H'
theorem ok_Take {f : Addr} {fd : FuncData} (T : Txt K mg) (F : FnP K "_law_take" "_law_take" sTake f fd) : Pr P w K mg base 1 f ["_law_pot_here", "_law_upto"] (spTake K) := by
  refine .of (F.ok scTake (fun vs H Q E h => ?_) (fun cdv A outer s H vs Q E hr h => ⟨_, PSs.nox (pss_cons (ps_if (pt_cmpR op_gt (pe_ix (ixL K) (pv 0) pe_int (fun _ _ => rfl)) pe_int (nomark _)) (pss_cons (ps_set (i := 2) scTake.nd rfl (Or.inl rfl) (pe_op op_mod (pe_callTy call_int1 rfl (T.free _ (by decide +kernel)) (by decide +kernel) (pa_cons (pe_ix (ixL K) (pv 0) pe_int (fun _ _ => rfl)) pa_nil)) (pv 1))) (pss_cons (ps_asg (pe_op op_fdiv (pe_ix (ixL K) (pv 0) pe_int (fun _ _ => rfl)) (pv 1)) (pg_sub (pv 0) pe_int set_list)) (pss_one (ps_ret (pv 2))))) pss_nil) (pss_cons (ps_asg (pe_op op_add (pe_ix (ixL K) (pv 0) pe_int (fun _ _ => rfl)) pe_int) (pg_sub (pv 0) pe_int set_list)) (pss_cons (ps_set (i := 3) scTake.nd rfl (Or.inl rfl) (pe_ix (ixL K) (pe_lst (pa_cons pe_int (pa_cons pe_int (pa_cons pe_int (pa_cons pe_int (pa_cons pe_int pa_nil)))))) (pe_op op_mod (pe_callTy call_int1 rfl (T.free _ (by decide +kernel)) (by decide +kernel) (pa_cons (pe_ix (ixL K) (pv 0) pe_int (fun _ _ => rfl)) pa_nil)) pe_int) (fun _ _ => rfl))) (pss_cons (ps_set (i := 4) scTake.nd rfl (Or.inl rfl) (pe_op op_mod (pe_callTy call_int1 rfl (T.free _ (by decide +kernel)) (by decide +kernel) (pa_cons (pe_op op_pow (pe_callTy call_int1 rfl (T.free _ (by decide +kernel)) (by decide +kernel) (pa_cons (pe_op op_add (pe_op op_add (pe_ix (ixL K) (pv 0) pe_int (fun _ _ => rfl)) (pe_op op_mul (pe_op op_mul pe_int (pe_ix (ixL K) (pv 0) pe_int (fun _ _ => rfl))) (pe_ix (ixL K) (pv 0) pe_int (fun _ _ => rfl)))) pe_int) pa_nil)) pe_int) pa_nil)) (pv 3))) (pss_cons (ps_set (i := 4) scTake.nd rfl (Or.inl rfl) (pe_op op_mod (pe_callTy call_int1 rfl (T.free _ (by decide +kernel)) (by decide +kernel) (pa_cons (pe_op op_mul (pv 4) (pe_op op_add (pe_op op_mod (pe_callTy call_int1 rfl (T.free _ (by decide +kernel)) (by decide +kernel) (pa_cons (pv 4) pa_nil)) pe_int) (pe_op op_mul pe_int (pe_ix (ixL K) (pv 0) pe_int (fun _ _ => rfl))))) pa_nil)) pe_int)) (pss_one (ps_ret (pe_op op_mod (pe_callTy call_int1 rfl (T.free _ (by decide +kernel)) (by decide +kernel) (pa_cons (pe_op op_fdiv (pv 4) pe_int) pa_nil)) (pv 1))))))))), ?_⟩)) (F.bindsN fun _ _ _ _ _ _ us hl => match us, hl with | [_, _], _ => rfl) F.kp
  · obtain ⟨q, u, n, rfl, _⟩ := h
    rfl
  · obtain ⟨q, u, n, rfl, ⟨own, m, k, hq, o1, o2, m1, m2, k1, k2⟩, hn, u0, u1, kk⟩ := h
    have big := big_line
    have i0 : ∀ x y z : V, atI [x, y, z] (0 : Int) = some x := fun x y z => atI_nat (j := 0) rfl
    have i1 : ∀ x y z : V, atI [x, y, z] (1 : Int) = some y := fun x y z => atI_nat (j := 1) rfl
    have i2 : ∀ x y z : V, atI [x, y, z] (2 : Int) = some z := fun x y z => atI_nat (j := 2) rfl
    refine ⟨_, rfl, q, _, _, _, rfl, rfl, SqL.of hq, i0 _ _ _, _, _, rfl, rfl, _, rfl, ?_⟩
    by_cases pos : own > 0
    · refine ifT (decide_eq_true pos) ?_
      dsimp only
      refine seq_reads (set_reads ⟨_, rfl, q, _, _, _, rfl, rfl, SqL.of hq, i0 _ _ _, .inl ⟨_, rfl, _, rfl, _, _, rfl, rfl, u0, ?_⟩⟩)
      dsimp only
      refine seq_reads ⟨_, rfl, q, _, _, _, rfl, rfl, SqL.of hq, i0 _ _ _, _, rfl, _, _, rfl, rfl, ⟨u0, by omega⟩, _, rfl, q, _, _, 0, rfl, rfl, hq, rfl, ?_⟩
      refine ⟨_, rfl, kk _ _ (fun b o nb e => by rw [upd_ne nb]; exact e) ⟨own / u, m, k, upd_same, Int.ediv_nonneg o1 (Int.le_of_lt u0), ?_, m1, m2, k1, by omega⟩ (Int.emod_nonneg _ (by omega)) (Int.emod_lt_of_pos _ u0)⟩
      exact Int.lt_of_le_of_lt (Int.ediv_le_self _ o1) o2
    · refine ifF (decide_eq_false pos) ?_
      dsimp only
      refine seq_reads ⟨_, rfl, q, _, _, _, rfl, rfl, SqL.of hq, i2 _ _ _, _, _, rfl, rfl, _, rfl, q, _, _, 2, rfl, rfl, hq, rfl, ?_⟩
      dsimp only
      have hq1 : upd H q (.lst ([V.int own, V.int m, V.int k].set 2 (V.int (k + 1)))) q = some (.lst [V.int own, V.int m, V.int (k + 1)]) := upd_same
      refine seq_reads (set_reads ⟨by show 5 ≤ sizeLine; omega, fun l nl => ?_⟩)
      have nlq : q ≠ l := fun z => by rw [← z, hq1] at nl; cases nl
      have hq2 : upd (upd H q (.lst ([V.int own, V.int m, V.int k].set 2 (V.int (k + 1))))) l (.lst [V.int 2147483647, V.int 2147483629, V.int 2147483587, V.int 2147483579, V.int 2147483563]) q = some (.lst [V.int own, V.int m, V.int (k + 1)]) := by
        rw [upd_ne nlq]
        exact hq1
      have hl2 : upd (upd H q (.lst ([V.int own, V.int m, V.int k].set 2 (V.int (k + 1))))) l (.lst [V.int 2147483647, V.int 2147483629, V.int 2147483587, V.int 2147483579, V.int 2147483563]) l = some (.lst [V.int 2147483647, V.int 2147483629, V.int 2147483587, V.int 2147483579, V.int 2147483563]) := upd_same
      have hk : Keep q H (upd (upd H q (.lst ([V.int own, V.int m, V.int k].set 2 (V.int (k + 1))))) l (.lst [V.int 2147483647, V.int 2147483629, V.int 2147483587, V.int 2147483579, V.int 2147483563])) := fun b o nb e => by
        have e2 : upd H q (.lst ([V.int own, V.int m, V.int k].set 2 (V.int (k + 1)))) b = some o := by rw [upd_ne nb]; exact e
        rw [upd_ne (ne_of_none e2 nl), upd_ne nb]
        exact e
      generalize upd (upd H q (.lst ([V.int own, V.int m, V.int k].set 2 (V.int (k + 1))))) l (.lst [V.int 2147483647, V.int 2147483629, V.int 2147483587, V.int 2147483579, V.int 2147483563]) = G at hq2 hl2 hk
      obtain ⟨v, hv, v0, v1⟩ := prime_at ((k + 1) % 5) (Int.emod_nonneg _ (by decide)) (Int.emod_lt_of_pos _ (by decide))
      refine ⟨_, rfl, q, _, _, _, rfl, rfl, SqL.of hq2, i2 _ _ _, .inl ⟨_, rfl, _, _, rfl, rfl, (by show (0 : Int) < 5; decide), l, _, _, _, rfl, rfl, SqL.of hl2, hv, ?_⟩⟩
      dsimp only
      have g1 : (0 : Int) ≤ 99809 * (k + 1) * (k + 1) := Int.mul_nonneg (by omega) (by omega)
      have g2 : 99809 * (k + 1) * (k + 1) ≤ 99809 * 100000 * 100000 := Int.mul_le_mul (by omega) (by omega) (by omega) (by omega)
      refine seq_reads (set_reads ⟨_, rfl, q, _, _, _, rfl, rfl, SqL.of hq2, i1 _ _ _, _, rfl, q, _, _, _, rfl, rfl, SqL.of hq2, i2 _ _ _, _, _, rfl, rfl, .inl ⟨by decide, by decide⟩, _, rfl, q, _, _, _, rfl, rfl, SqL.of hq2, i2 _ _ _, _, _, rfl, rfl, .inl ⟨by omega, by omega⟩, _, _, rfl, rfl, _, _, rfl, rfl,
        .inl ⟨_, rfl, _, 3, rfl, rfl, ⟨by decide, by decide, by omega⟩, .inl ⟨_, rfl, _, rfl, _, _, rfl, rfl, (by show (0 : Int) < v; omega), ?_⟩⟩⟩)
      dsimp only
      have w0 := Int.emod_nonneg ((m + 99809 * (k + 1) * (k + 1) + 59) ^ (3 : Int).toNat) (b := v) (by omega)
      have w1 := Int.emod_lt_of_pos ((m + 99809 * (k + 1) * (k + 1) + 59) ^ (3 : Int).toNat) (b := v) (by omega)
      refine seq_reads (set_reads ⟨_, rfl, _, rfl, .inl ⟨_, rfl, _, _, rfl, rfl, (by show (0 : Int) < 10433; decide), _, rfl, q, _, _, _, rfl, rfl, SqL.of hq2, i2 _ _ _, _, _, rfl, rfl, .inl ⟨by decide, by decide⟩, _, _, rfl, rfl, _, _, rfl, rfl, .inl ⟨by omega, by omega⟩, .inl ⟨_, rfl, _, _, rfl, rfl, (by show (0 : Int) < 2305843009213693907; decide), ?_⟩⟩⟩)
      dsimp only
      refine ⟨_, rfl, _, _, rfl, rfl, ⟨by decide, by decide⟩, .inl ⟨_, rfl, _, rfl, _, _, rfl, rfl, u0, ?_⟩⟩
      exact kk _ _ hk ⟨own, m, k + 1, hq2, o1, o2, m1, m2, by omega, by omega⟩ (Int.emod_nonneg _ (by omega)) (Int.emod_lt_of_pos _ u0)
def spOf (K : PySem.W.Frag) : Sp := fun vs H Q _ => ∃ (q l : Addr) (xs : List V) (n : Nat), vs = [.ref q, .ref l] ∧ PotAt H q n ∧ n < 100000 ∧ H l = some (.lst xs) ∧ l ≠ q ∧ xs ≠ [] ∧ xs.length < 1000000 ∧ ∀ (x : V) (H' : Hp), Keep q H H' → PotAt H' q (n + 1) → x ∈ xs → Q x H'
theorem ok_Of {f : Addr} {fd : FuncData} (T : Txt K mg) (F : FnP K "_law_of" "_law_of" sOf f fd) (GTake : Pr P w K mg base 1 (ga K "_law_take") ["_law_pot_here", "_law_upto"] (spTake K)) : Pr P w K mg base 2 f ["_law_pot_here", "_law_some"] (spOf K) := by
  refine .of (F.ok scOf (fun vs H Q E h => ?_) (fun cdv A outer s H vs Q E hr h => ⟨_, PSs.nox (pss_one (ps_ret (pe_ix (ixL K) (pv 1) (pcl GTake (hr.mono (by decide)) rfl (T.gl "_law_take" (by decide +kernel)) (pa_cons (pv 0) (pa_cons (pe_callB (lenK K) rfl (T.free _ (by decide +kernel)) (by decide +kernel) (pa_cons (pv 1) pa_nil)) pa_nil))) (fun _ _ => rfl)))), ?_⟩)) (F.bindsN fun _ _ _ _ _ _ us hl => match us, hl with | [_, _], _ => rfl) F.kp
  · obtain ⟨q, l, xs, n, rfl, _⟩ := h
    rfl
  · obtain ⟨q, l, xs, n, rfl, hp, hn, hl, ne, hx, lx, kk⟩ := h
    have pos : 0 < xs.length := List.length_pos_iff.mpr hx
    refine ⟨_, rfl, _, rfl, _, rfl, l, xs, rfl, .inl (SqL.of hl), q, _, n, rfl, hp, hn, by omega, by omega, fun d H' k1 p1 d0 d1 => ?_⟩
    obtain ⟨i, rfl⟩ := Int.eq_ofNat_of_zero_le d0
    have hi : i < xs.length := by omega
    exact ⟨l, xs, _, _, rfl, rfl, SqL.of (k1 _ _ ne hl), atI_nat (List.getElem?_eq_getElem hi), kk _ _ k1 p1 (List.getElem_mem hi)⟩
def spCells (K : PySem.W.Frag) : Sp := fun vs H Q _ => ∃ (a : Addr) (ns : List Int) (m : Nat), vs = [.ref a, .int (m : Nat)] ∧ SqL K H a (ns.map V.int) ∧ 1 ≤ m ∧ m ≤ 63 ∧ ∀ (l : Addr) (c : Nat) (H' : Hp), Same H H' → c ≤ 63 → H' l = some (.lst (mv (List.range c))) → Q (.ref l) H'
theorem rg_mv (b : Int) (n : Nat) (h : b = n) : rgV 0 b = mv (List.range n) := by
  subst h
  unfold rgV mv
  rw [Int.sub_zero, Int.toNat_natCast]
  refine List.map_congr_left fun i _ => ?_
  rw [Int.zero_add]
theorem ok_Cells {f : Addr} {fd : FuncData} (T : Txt K mg) (F : FnP K "_law_cells" "_law_cells" sCells f fd) : Pr P w K mg base 1 f ["_law_script", "_law_limit"] (spCells K) := by
  refine .of (F.ok scCells (fun vs H Q E h => ?_) (fun cdv A outer s H vs Q E hr h => ⟨_, PSs.nox (pss_one (ps_ret (pe_listRg rfl rfl (T.free _ (by decide +kernel)) (prg_1 rfl (T.free _ (by decide +kernel)) (pe_callB (call_max2 rfl) rfl (T.free _ (by decide +kernel)) (by decide +kernel) (pa_cons pe_int (pa_cons (pe_callB (call_min2 rfl) rfl (T.free _ (by decide +kernel)) (by decide +kernel) (pa_cons (pv 1) (pa_cons (pe_callB (lenK K) rfl (T.free _ (by decide +kernel)) (by decide +kernel) (pa_cons (pv 0) pa_nil)) pa_nil))) pa_nil))))))), ?_⟩)) (F.bindsN fun _ _ _ _ _ _ us hl => match us, hl with | [_, _], _ => rfl) F.kp
  · obtain ⟨a, ns, m, rfl, _⟩ := h
    rfl
  · obtain ⟨a, ns, m, rfl, hs, m1, m2, kk⟩ := h
    refine ⟨_, rfl, _, rfl, a, _, rfl, .inl hs, _, _, rfl, 1, _, rfl, ?_⟩
    rw [List.length_map]
    have e : ∀ z : Int, (∃ c : Nat, c ≤ 63 ∧ z = c) → ∃ n : Int, (V.int z = V.int n) ∧ RgOk 0 n ∧ ∀ l, H l = none → Q (.ref l) (upd H l (.lst (rgV 0 n))) := fun z ⟨c, hc, ez⟩ =>
      ⟨z, rfl, ⟨by omega, by omega, by omega, by omega, by omega⟩, fun l nl => kk l c _ (same_updN nl) hc (by rw [upd_same, rg_mv z c ez])⟩
    refine e _ ⟨max 1 (min m ns.length), by omega, ?_⟩
    split <;> split <;> omega
end
end K02

set_option Elab.async false
set_option linter.all false
set_option maxRecDepth 100000
set_option maxHeartbeats 4000000
namespace K02
open PySem PySem.Spec PyProof.Rows L2 Lw
abbrev sDrawn : Stmt := top 22
abbrev nDrawn : List Str := ["_law_pot_here", "_law_count", "_law_found", "_law_number"]
theorem scDrawn : FnScope nDrawn ["_law_pot_here", "_law_count"] (defScope sDrawn) := ⟨rfl, rfl, rfl, by decide +kernel, rfl, by decide +kernel, by decide +kernel⟩
/-! ### marks that grow -/
structure Pre (n : Nat) (ms : List Nat) : Prop where
  len : ms.length = n
  le : ∀ i, i < n → gd ms i ≤ i
  fix : ∀ i, i < n → gd ms (gd ms i) = gd ms i
theorem gd_snoc {ms : List Nat} {v i : Nat} : gd (ms ++ [v]) i = if i < ms.length then gd ms i else if i = ms.length then v else 0 := by
  unfold gd
  rw [List.getD_eq_getElem?_getD, List.getD_eq_getElem?_getD]
  by_cases h : i < ms.length
  · rw [if_pos h, List.getElem?_append_left h]
  · rw [if_neg h, List.getElem?_append_right (by omega)]
    by_cases e : i = ms.length
    · rw [if_pos e, e, Nat.sub_self]
      rfl
    · rw [if_neg e]
      have : ∃ j, i - ms.length = j + 1 := ⟨i - ms.length - 1, by omega⟩
      obtain ⟨j, hj⟩ := this
      rw [hj]
      rfl
theorem mem_gd {ms : List Nat} {v : Nat} (h : v ∈ ms) : ∃ i, i < ms.length ∧ gd ms i = v := by
  obtain ⟨i, hi, e⟩ := List.getElem_of_mem h
  refine ⟨i, hi, ?_⟩
  unfold gd
  rw [List.getD_eq_getElem?_getD, List.getElem?_eq_getElem hi]
  exact e
theorem Pre.nil : Pre 0 [] := ⟨rfl, fun i h => absurd h (Nat.not_lt_zero i), fun i h => absurd h (Nat.not_lt_zero i)⟩
theorem Pre.snoc {n v : Nat} {ms : List Nat} (p : Pre n ms) (h : v = n ∨ v ∈ ms) : Pre (n + 1) (ms ++ [v]) := by
  have hv : v ≤ n ∧ (v < n → gd ms v = v) := by
    rcases h with h | h
    · exact ⟨by omega, fun z => by omega⟩
    · obtain ⟨i, hi, e⟩ := mem_gd h
      have h1 := p.le i (by have := p.len; omega)
      have h2 := p.fix i (by have := p.len; omega)
      rw [e] at h1 h2
      exact ⟨by have := p.len; omega, fun _ => h2⟩
  refine ⟨by rw [List.length_append, List.length_singleton, p.len], fun i hi => ?_, fun i hi => ?_⟩
  · rw [gd_snoc, p.len]
    by_cases l : i < n
    · rw [if_pos l]; exact p.le i l
    · rw [if_neg l, if_pos (by omega)]; omega
  · rw [gd_snoc (i := i), p.len]
    by_cases l : i < n
    · have h1 := p.le i l
      rw [if_pos l, gd_snoc, p.len, if_pos (by omega)]
      exact p.fix i l
    · rw [if_neg l, if_pos (by omega), gd_snoc, p.len]
      by_cases l2 : v < n
      · rw [if_pos l2]; exact hv.2 l2
      · rw [if_neg l2, if_pos (by omega)]
theorem Pre.canon {n : Nat} {ms : List Nat} (p : Pre n ms) (h1 : 3 ≤ n) (h2 : n ≤ 6) : Canon ms := by
  have l := p.len
  subst l
  exact ⟨h1, h2, p.le, p.fix⟩
def AllPre (K : PySem.W.Frag) (H : Hp) (n : Nat) (Ts : List Addr) : Prop := ∀ T ∈ Ts, ∃ ms, Pre n ms ∧ SqT K H T (mv ms)
theorem AllPre.same {K : PySem.W.Frag} {H H' : Hp} {n : Nat} {Ts : List Addr} (h : AllPre K H n Ts) (s : Same H H') : AllPre K H' n Ts := fun T hT => by
  obtain ⟨ms, p, q⟩ := h T hT
  exact ⟨ms, p, sqT_same s q⟩
theorem sqT_upd {K : PySem.W.Frag} {H : Hp} {l T : Addr} {xs ys : List V} {o : HO} (h : H l = some (.lst xs)) (q : SqT K H T ys) : SqT K (upd H l o) T ys := by
  rcases q with (q | ⟨ob, q⟩) | q
  · exact .inl (.inl (by rw [upd_ne (fun z => by rw [z, h] at q; cases q)]; exact q))
  · exact .inl (.inr ⟨ob, by rw [upd_ne (fun z => by rw [z, h] at q; cases q)]; exact q⟩)
  · exact .inr q
theorem AllPre.upd {K : PySem.W.Frag} {H : Hp} {n : Nat} {Ts : List Addr} {l : Addr} {xs : List V} {o : HO} (a : AllPre K H n Ts) (h : H l = some (.lst xs)) : AllPre K (upd H l o) n Ts := fun T hT => by
  obtain ⟨ms, p, q⟩ := a T hT
  exact ⟨ms, p, sqT_upd h q⟩
theorem AllPre.append {K : PySem.W.Frag} {H : Hp} {n : Nat} {Ts Us : List Addr} (a : AllPre K H n Ts) (b : AllPre K H n Us) : AllPre K H n (Ts ++ Us) := fun T hT => by
  rcases List.mem_append.mp hT with h | h
  · exact a T h
  · exact b T h
theorem mv_ints (ms : List Nat) : mv ms = (ms.map fun n : Nat => (n : Int)).map V.int := by
  unfold mv
  rw [List.map_map]
  rfl
theorem mv_toNat {ms : List Nat} : ∀ {ns : List Int}, (∀ k ∈ ns, ∃ m ∈ ms, k = ((m : Nat) : Int)) → mv (ns.map Int.toNat) = ns.map V.int ∧ ∀ v ∈ ns.map Int.toNat, v ∈ ms
  | [], _ => ⟨rfl, fun v h => by cases h⟩
  | k :: ns, h => by
    obtain ⟨i1, i2⟩ := mv_toNat (ns := ns) fun k hk => h k (List.mem_cons_of_mem _ hk)
    obtain ⟨m, hm, rfl⟩ := h k List.mem_cons_self
    refine ⟨?_, fun v hv => ?_⟩
    · show V.int ((((m : Nat) : Int).toNat : Nat) : Int) :: mv (ns.map Int.toNat) = _
      rw [i1, Int.toNat_natCast]
      rfl
    · rcases List.mem_cons.mp hv with e | e
      · rw [e, Int.toNat_natCast]; exact hm
      · exact i2 v e
theorem mv_append (a b : List Nat) : mv (a ++ b) = mv a ++ mv b := List.map_append ..
/-- sorted(set(t)), t some marks -/
theorem ss_reads {K : PySem.W.Frag} {w : World} {σ : L2.St} {H : Hp} {Q : VK} {i : Nat} {t : Addr} {ms : List Nat} (hσ : σ[i]? = some (some (.ref t))) (hs : SqT K H t (mv ms)) (hl : ms.length ≤ 6)
    (h : ∀ (q : Addr) (ns : List Nat) (H' : Hp), Same H H' → H q = none → H' q = some (.lst (mv ns)) → ns.length ≤ ms.length → (∀ v ∈ ns, v ∈ ms) → Q (.ref q) H') :
    tCB (rSortedSet w) (tCons (tCB (rSetT K w) (tCons (tVar i) tNil)) tNil) σ H Q := by
  refine ⟨_, hσ, t, ms.map fun n : Nat => (n : Int), rfl, by rw [← mv_ints]; exact hs, by rw [List.length_map]; unfold scanBound; omega, fun p n hp hn => ?_⟩
  rw [List.length_map] at hn
  refine ⟨p, _, n, rfl, upd_same, by omega, fun ns q pw mem len nq => ?_⟩
  have hm : ∀ k ∈ ns, ∃ m ∈ ms, k = ((m : Nat) : Int) := fun k hk => by
    have e := of_decide_eq_true ((mem k).mp hk)
    obtain ⟨m, hm, e⟩ := List.mem_map.mp e
    exact ⟨m, hm, e.symm⟩
  obtain ⟨e1, e2⟩ := mv_toNat hm
  have s1 : Same H (L2.upd H p (SetO w p (fun j => decide (j ∈ ms.map fun n : Nat => (n : Int))) n)) := same_updN hp
  refine h q (ns.map Int.toNat) _ (s1.trans (same_updN nq)) (s1.free nq) (by rw [upd_same, e1]) (by rw [List.length_map]; omega) e2
end K02

set_option Elab.async false
set_option linter.all false
set_option maxRecDepth 100000
set_option maxHeartbeats 4000000
namespace K02
open PySem PySem.Spec PyProof.Rows L2 Lw
section
variable {P : Program} {w : World} {K : PySem.W.Frag} {mg : Str → Option Value} {base : Heap}
/-! ### drawn marks -/
def spDrawn (K : PySem.W.Frag) : Sp := fun vs H Q _ => ∃ (q : Addr) (c n : Nat), vs = [.ref q, .int (c : Nat)] ∧ c ≤ 6 ∧ PotAt H q n ∧ n < 90000 ∧ ∀ (t : Addr) (ms : List Nat) (H' : Hp), Keep q H H' → PotAt H' q (n + 6) → Pre c ms → SqT K H' t (mv ms) → Q (.ref t) H'
theorem sqT_keep {H H' : Hp} {q T : Addr} {xs ys : List V} (h : H q = some (.lst xs)) (k : Keep q H H') (s : SqT K H T ys) : SqT K H' T ys := by
  rcases s with (s | ⟨ob, s⟩) | s
  · exact .inl (.inl (k _ _ (fun z => by rw [z, h] at s; cases s) s))
  · exact .inl (.inr ⟨ob, k _ _ (fun z => by rw [z, h] at s; cases s) s⟩)
  · exact .inr s
theorem ok_Drawn {f : Addr} {fd : FuncData} (T : Txt K mg) (F : FnP K "_law_drawn_marks" "_law_drawn_marks" sDrawn f fd) (GOf : Pr P w K mg base 2 (ga K "_law_of") ["_law_pot_here", "_law_some"] (spOf K)) : Pr P w K mg base 3 f ["_law_pot_here", "_law_count"] (spDrawn K) := by
  refine .of (F.ok scDrawn (fun vs H Q E h => ?_) (fun cdv A outer s H vs Q E hr h => ⟨_, PSs.nox (pss_cons (ps_set (i := 2) scDrawn.nd rfl (Or.inl rfl) (pe_tup pa_nil)) (pss_cons (ps_for PassesOwn.never rfl (pi_range1 rfl (T.free _ (by decide +kernel)) (pa_cons (pv 1) pa_nil)) (pg_name (i := 3) scDrawn.nd rfl (Or.inl rfl)) (pss_one (ps_set (i := 2) scDrawn.nd rfl (Or.inl rfl) (pe_op (catK K) (pv 2) (pe_tup (pa_cons (pcl GOf (hr.mono (by decide)) rfl (T.gl "_law_of" (by decide +kernel)) (pa_cons (pv 0) (pa_cons (pe_op op_cat (pe_lst (pa_cons (pv 3) pa_nil)) (pe_callB (cr_sortedSet rfl) rfl (T.free _ (by decide +kernel)) (by decide +kernel) (pa_cons (pe_callTy (cr_setT rfl) rfl (T.free _ (by decide +kernel)) (by decide +kernel) (pa_cons (pv 2) pa_nil)) pa_nil))) pa_nil))) pa_nil)))))) (pss_one (ps_ret (pv 2))))), ?_⟩)) (F.bindsN fun _ _ _ _ _ _ us hl => match us, hl with | [_, _], _ => rfl) F.kp
  · obtain ⟨q, c, n, rfl, _⟩ := h
    rfl
  · obtain ⟨q, c, n, rfl, hc, hp, hn, kk⟩ := h
    have big := big_line
    refine seq_reads (set_reads ⟨Nat.zero_le _, fun t0 nt0 => ?_⟩)
    dsimp only
    refine ⟨_, rfl, (c : Int), rfl, by omega, by omega, ?_⟩
    have ec : ((c : Int)).toNat = c := Int.toNat_natCast c
    rw [ec]
    refine for_range (lo := 0) (n := c) (fun i σ H' => ∃ (t : Addr) (ms : List Nat) (s1 : Option V), σ = [some (.ref q), some (.int (c : Nat)), some (.ref t), s1] ∧ Keep q H H' ∧ PotAt H' q (n + i) ∧ Pre i ms ∧ SqT K H' t (mv ms)) ⟨t0, [], none, rfl, Keep.of (same_updN nt0), hp.same (same_updN nt0), Pre.nil, SqT.of upd_same⟩ ?_ ?_
    · rintro i σ H1 hi ⟨t, ms, s1, rfl, k1, p1, pm, ht⟩
      have lm := pm.len
      dsimp only [gName]
      refine ⟨_, rfl, _, rfl, _, rfl, by show 1 ≤ sizeLine; omega, fun l1 nl1 => ss_reads (i := 2) rfl (sqT_same (same_updN nl1) ht) (by omega) fun l2 ns H2 s2 nl2 h2 ln mem => ?_⟩
      have h1 : H2 l1 = some (.lst [V.int (0 + (i : Int))]) := s2 _ _ upd_same
      refine ⟨l1, l2, _, _, rfl, rfl, h1, h2, by rw [List.length_singleton, mv_len]; omega, fun p np => ?_⟩
      have sA : Same H1 (upd H2 p (.lst ([V.int (0 + (i : Int))] ++ mv ns))) := ((same_updN nl1).trans s2).trans (same_updN np)
      have p2 := p1.same sA
      have npq : p ≠ q := fun z => by
        obtain ⟨_, _, _, e, _⟩ := p1.same ((same_updN nl1).trans s2)
        rw [z, e] at np
        cases np
      refine ⟨q, p, _, n + i, rfl, p2, by omega, upd_same, npq, by simp, by rw [List.length_append, List.length_singleton, mv_len]; omega, fun x H3 k3 p3 hx => ?_⟩
      have hv : ∃ v : Nat, x = .int (v : Nat) ∧ (v = i ∨ v ∈ ms) := by
        rcases List.mem_append.mp hx with hx | hx
        · exact ⟨i, by rw [List.mem_singleton.mp hx, Int.zero_add], .inl rfl⟩
        · obtain ⟨v, hv, rfl⟩ := List.mem_map.mp hx
          exact ⟨v, rfl, .inr (mem v hv)⟩
      obtain ⟨v, rfl, hv⟩ := hv
      obtain ⟨_, _, _, eq2, _⟩ := id p2
      have ht3 : SqT K H3 t (mv ms) := sqT_keep eq2 k3 (sqT_same sA ht)
      refine ⟨by show 1 ≤ sizeLine; omega, fun p4 np4 => cat_reads (sqT_same (same_updN np4) ht3) (SqT.of upd_same) (by rw [mv_len]; omega) fun t' H' s' ht' => ?_⟩
      have s5 := (same_updN np4).trans s'
      refine ⟨t', ms ++ [v], some (.int (0 + (i : Int))), rfl, k1.trans ((Keep.of sA).trans (k3.trans (Keep.of s5))), p3.same s5, pm.snoc hv, ?_⟩
      rw [mv_append]
      exact ht'
    · rintro σ H1 ⟨t, ms, s1, rfl, k1, p1, pm, ht⟩
      exact ⟨_, rfl, kk t ms H1 k1 (p1.mono (by omega)) pm ht⟩
end
end K02

set_option Elab.async false
set_option linter.all false
set_option maxRecDepth 100000
set_option maxHeartbeats 4000000
namespace K02
open PySem PySem.Spec PyProof.Rows L2 Lw
theorem idxF {X : Cx} (K : PySem.W.Frag) (hK : X.K = K := by rfl) : MtR X "list.index" (rIndex K) := by
  subst hK
  exact mt_index
abbrev sMerged : Stmt := top 19
abbrev nMerged : List Str := ["_law_things", "_law_pairs", "_law_found", "_law_number", "_law_thing", "_law_one", "_law_other", "_law_low", "_law_high"]
theorem scMerged : FnScope nMerged ["_law_things", "_law_pairs"] (defScope sMerged) := ⟨rfl, rfl, rfl, by decide +kernel, rfl, by decide +kernel, by decide +kernel⟩
abbrev sLMarks : Stmt := top 20
abbrev nLMarks : List Str := ["_law_found", "_law_things", "_law_numbers", "_law_thing", "_law_number"]
theorem scLMarks : FnScope nLMarks ["_law_found", "_law_things"] (defScope sLMarks) := ⟨rfl, rfl, rfl, by decide +kernel, rfl, by decide +kernel, by decide +kernel⟩
abbrev sJoined : Stmt := top 23
abbrev nJoined : List Str := ["_law_one", "_law_other", "_law_pairs", "_law_number", "_law_mark", "_law_things"]
theorem scJoined : FnScope nJoined ["_law_one", "_law_other"] (defScope sJoined) := ⟨rfl, rfl, rfl, by decide +kernel, rfl, by decide +kernel, by decide +kernel⟩
abbrev sCommon : Stmt := top 24
abbrev nCommon : List Str := ["_law_one", "_law_other", "_law_pairs", "_law_pair"]
theorem scCommon : FnScope nCommon ["_law_one", "_law_other"] (defScope sCommon) := ⟨rfl, rfl, rfl, by decide +kernel, rfl, by decide +kernel, by decide +kernel⟩
abbrev sLieW : Stmt := top 25
abbrev nLieW : List Str := ["_law_one", "_law_other", "_law_number", "_law_mark"]
theorem scLieW : FnScope nLieW ["_law_one", "_law_other"] (defScope sLieW) := ⟨rfl, rfl, rfl, by decide +kernel, rfl, by decide +kernel, by decide +kernel⟩
/-! ### merging by pairs -/
def mergeP (ms : List Nat) (ps : List (Nat × Nat)) : List Nat := ps.foldl (fun t p => mergeM t p.1 p.2) ms
theorem mergeP_len : ∀ (ps : List (Nat × Nat)) (ms : List Nat), (mergeP ms ps).length = ms.length
  | [], _ => rfl
  | p :: ps, ms => by
    show (mergeP (mergeM ms p.1 p.2) ps).length = _
    rw [mergeP_len ps, merge_len]
theorem merge_rel {ms : List Nat} {a b : Nat} (c : Canon ms) (ha : a < ms.length) (hb : b < ms.length) : Le ms (mergeM ms a b) ∧ gd (mergeM ms a b) a = gd (mergeM ms a b) b ∧ ∀ q, q.length = ms.length → Le ms q → gd q a = gd q b → Le (mergeM ms a b) q := by
  have mg : ∀ {j k : Nat}, j < ms.length → k < ms.length → gd ms j = gd ms k → gd (mergeM ms a b) j = gd (mergeM ms a b) k := fun hj hk e => by
    rw [gd_merge hj, gd_merge hk, e]
  refine ⟨le_of_rel c fun j k hj hk e => mg hj hk e, ?_, fun q hq h1 h2 => ?_⟩
  · rw [gd_merge ha, gd_merge hb]
    split <;> split <;> omega
  · refine le_of_rel (merge_canon c ha hb) fun j k hj hk e => ?_
    rw [merge_len] at hj hk
    have ra : gd q (gd ms a) = gd q a := (h1 a ha).symm
    have rb : gd q (gd ms b) = gd q b := (h1 b hb).symm
    have red : ∀ j, j < ms.length → gd q (gd (mergeM ms a b) j) = gd q j := fun j hj => by
      have rj := h1 j hj
      rw [gd_merge hj]
      by_cases e : gd ms j = max (gd ms a) (gd ms b)
      · rw [if_pos e, rj, e]
        rcases Nat.le_total (gd ms a) (gd ms b) with z | z
        · rw [Nat.min_eq_left z, Nat.max_eq_right z, ra, rb, h2]
        · rw [Nat.min_eq_right z, Nat.max_eq_left z, ra, rb, h2]
      · rw [if_neg e]
        exact rj.symm
    rw [← red j hj, ← red k hk, e]
theorem mergeP_ok : ∀ (ps : List (Nat × Nat)) (ms : List Nat), Canon ms → (∀ p ∈ ps, p.1 < ms.length ∧ p.2 < ms.length) → Canon (mergeP ms ps) ∧ Le ms (mergeP ms ps) ∧ (∀ p ∈ ps, gd (mergeP ms ps) p.1 = gd (mergeP ms ps) p.2) ∧
    ∀ q, q.length = ms.length → Le ms q → (∀ p ∈ ps, gd q p.1 = gd q p.2) → Le (mergeP ms ps) q
  | [], ms, c, _ => ⟨c, le_refl c, fun p hp => (by cases hp), fun q _ h _ => h⟩
  | p :: ps, ms, c, h => by
    obtain ⟨hp1, hp2⟩ := h p List.mem_cons_self
    obtain ⟨r1, r2, r3⟩ := merge_rel c hp1 hp2
    have l := merge_len ms p.1 p.2
    have cm := merge_canon c hp1 hp2
    obtain ⟨i1, i2, i3, i4⟩ := mergeP_ok ps (mergeM ms p.1 p.2) cm fun q hq => by rw [l]; exact h q (List.mem_cons_of_mem _ hq)
    have e : mergeP ms (p :: ps) = mergeP (mergeM ms p.1 p.2) ps := rfl
    rw [e]
    refine ⟨i1, le_trans c l.symm r1 i2, fun q hq => ?_, fun q hq h1 h2 => i4 q (by rw [l]; exact hq) (r3 q hq h1 (h2 p List.mem_cons_self)) fun z hz => h2 z (List.mem_cons_of_mem _ hz)⟩
    rcases List.mem_cons.mp hq with e2 | hq
    · rw [e2]
      exact le_rel i2 (by rw [l]; exact hp1) (by rw [l]; exact hp2) r2
    · exact i3 q hq
/-- the pairs of some marks -/
def prs (ms : List Nat) : List (Nat × Nat) := (List.range ms.length).map fun i => (gd ms i, i)
theorem joined_eq {ms os : List Nat} (c : Canon ms) (d : Canon os) (hl : ms.length = os.length) : mergeP (List.range ms.length) (prs ms ++ prs os) = orM ms os := by
  have rl : (List.range ms.length).length = ms.length := List.length_range
  have cb := bare_canon c.lo c.hi
  have hp : ∀ p ∈ prs ms ++ prs os, p.1 < (List.range ms.length).length ∧ p.2 < (List.range ms.length).length := fun p hp => by
    rw [rl]
    rcases List.mem_append.mp hp with h | h
    · obtain ⟨i, hi, rfl⟩ := List.mem_map.mp h
      have hi := List.mem_range.mp hi
      exact ⟨c.lt hi, hi⟩
    · obtain ⟨i, hi, rfl⟩ := List.mem_map.mp h
      have hi := List.mem_range.mp hi
      exact ⟨hl ▸ d.lt hi, hl ▸ hi⟩
  obtain ⟨f1, f2, f3, f4⟩ := mergeP_ok (prs ms ++ prs os) (List.range ms.length) cb hp
  have fl := mergeP_len (prs ms ++ prs os) (List.range ms.length)
  rw [rl] at fl
  have ol := or_len c d hl
  refine le_antisymm f1 (or_canon c d hl) (by omega) ?_ ?_
  · refine f4 _ (by rw [rl]; exact ol) bare_le fun p hp => ?_
    rcases List.mem_append.mp hp with h | h
    · obtain ⟨i, hi, rfl⟩ := List.mem_map.mp h
      exact (or_left c d hl i (List.mem_range.mp hi)).symm
    · obtain ⟨i, hi, rfl⟩ := List.mem_map.mp h
      exact (or_right c d hl i (List.mem_range.mp hi)).symm
  · refine or_least c d hl fl ?_ ?_
    · exact fun i hi => (f3 (gd ms i, i) (List.mem_append_left _ (List.mem_map.mpr ⟨i, List.mem_range.mpr hi, rfl⟩))).symm
    · exact fun i hi => (f3 (gd os i, i) (List.mem_append_right _ (List.mem_map.mpr ⟨i, List.mem_range.mpr hi, rfl⟩))).symm
/-! ### a dict from numbers to marks -/
def DAt (H : Hp) (d : Addr) (ms : List Nat) : Prop := ∃ kvs : List (Key × V), H d = some (.dK kvs) ∧ ∀ i, i < ms.length → valV kvs (Sum.inl (i : Int)) = some (.int (gd ms i : Nat))
theorem DAt.same {H H' : Hp} {d : Addr} {ms : List Nat} (h : DAt H d ms) (s : Same H H') : DAt H' d ms := by
  obtain ⟨kvs, e, r⟩ := h
  exact ⟨kvs, s _ _ e, r⟩
theorem DAt.get {H : Hp} {d : Addr} {ms : List Nat} (h : DAt H d ms) {i : Nat} (hi : i < ms.length) : DGet H d (.int (i : Int)) (some (.int (gd ms i : Nat))) := by
  obtain ⟨kvs, e, r⟩ := h
  exact .inl ⟨kvs, .inl (i : Int), .inl e, rfl, (r i hi).symm⟩
theorem valV_merge : ∀ (L : List Nat) (g : Nat → V) (acc : List (Key × V)) (j : Nat), valV (mergeK acc (L.map fun i : Nat => ((Sum.inl (i : Int) : Key), g i))) (Sum.inl (j : Int)) = if j ∈ L then some (g j) else valV acc (Sum.inl (j : Int))
  | [], g, acc, j => by simp [mergeK]
  | i :: L, g, acc, j => by
    have e : mergeK acc ((i :: L).map fun i : Nat => ((Sum.inl (i : Int) : Key), g i)) = mergeK (putK acc (Sum.inl (i : Int)) (g i)) (L.map fun i : Nat => ((Sum.inl (i : Int) : Key), g i)) := rfl
    rw [e, valV_merge L, valV_put]
    by_cases h1 : j ∈ L
    · rw [if_pos h1, if_pos (List.mem_cons_of_mem _ h1)]
    · rw [if_neg h1]
      by_cases h2 : j = i
      · subst h2
        rw [if_pos rfl, if_pos List.mem_cons_self]
      · rw [if_neg (fun z => h2 (by have z2 := Sum.inl.inj z; omega)), if_neg (fun z => (List.mem_cons.mp z).elim h2 h1)]
theorem dat_of {H : Hp} {d : Addr} {ms : List Nat} (h : H d = some (.dK (mergeK [] ((List.range ms.length).map fun i : Nat => ((Sum.inl (i : Int) : Key), V.int (gd ms i : Nat)))))) : DAt H d ms :=
  ⟨_, h, fun i hi => by rw [valV_merge (List.range ms.length) (fun i : Nat => V.int (gd ms i : Nat)), if_pos (List.mem_range.mpr hi)]⟩
section
variable {P : Program} {w : World} {K : PySem.W.Frag} {mg : Str → Option Value} {base : Heap}
/-- a list of pairs of numbers -/
def PrsAt (K : PySem.W.Frag) (H : Hp) (l : Addr) (ps : List (Nat × Nat)) : Prop := ∃ Us : List Addr, H l = some (.lst (Us.map V.ref)) ∧ Paired (fun U p => SqT K H U [.int (p.1 : Nat), .int (p.2 : Nat)]) Us ps
theorem paired_mono {α β : Type} {F G : α → β → Prop} (h : ∀ a b, F a b → G a b) : ∀ {l : List α} {m : List β}, Paired F l m → Paired G l m
  | _, _, .nil => .nil
  | _, _, .cons r t => .cons (h _ _ r) (paired_mono h t)
theorem PrsAt.same {H H' : Hp} {l : Addr} {ps : List (Nat × Nat)} (h : PrsAt K H l ps) (s : Same H H') : PrsAt K H' l ps := by
  obtain ⟨Us, e, p⟩ := h
  exact ⟨Us, s _ _ e, paired_mono (fun _ _ q => sqT_same s q) p⟩
theorem paired_mapR {α β γ : Type} {F : α → γ → Prop} {g : β → γ} : ∀ {l : List α} {m : List β}, Paired (fun a b => F a (g b)) l m → Paired F l (m.map g)
  | _, _, .nil => .nil
  | _, _, .cons r t => .cons r (paired_mapR t)
/-- .. of a comprehension that makes key and value: the list of new pairs -/
def KvsAt (K : PySem.W.Frag) (H : Hp) (Us : List Addr) (g : Nat → Nat) (k : Nat) : Prop := Paired (fun U (i : Nat) => SqT K H U [.int (i : Int), .int (g i : Nat)]) Us (List.range k)
theorem kvs_len {H : Hp} {Us : List Addr} {g : Nat → Nat} {k : Nat} (h : KvsAt K H Us g k) : Us.length = k := by
  have e := paired_len h
  rwa [List.length_range] at e
theorem KvsAt.snoc {H1 H2 : Hp} {Us : List Addr} {U D : Addr} {g : Nat → Nat} {k : Nat} {xs : List V} {o : HO} (h : KvsAt K H1 Us g k) (s : Same H1 H2) (hD : H2 D = some (.lst xs)) (hU : SqT K H2 U [.int (k : Int), .int (g k : Nat)]) : KvsAt K (upd H2 D o) (Us ++ [U]) g (k + 1) := by
  unfold KvsAt at h ⊢
  rw [List.range_succ]
  exact paired_snoc (paired_mono (fun _ _ q => sqT_upd hD (sqT_same s q)) h) (sqT_upd hD hU)
theorem dat_g {H : Hp} {d : Addr} {n : Nat} {ms : List Nat} {g : Nat → Nat} (l : ms.length = n) (e : ∀ i, i < n → g i = gd ms i) (h : H d = some (.dK (mergeK [] ((List.range n).map fun i : Nat => ((Sum.inl (i : Int) : Key), V.int (g i : Nat)))))) : DAt H d ms :=
  ⟨_, h, fun i hi => by rw [valV_merge (List.range n) (fun i : Nat => V.int (g i : Nat)), if_pos (List.mem_range.mpr (l ▸ hi)), e i (l ▸ hi)]⟩
theorem sort2 {x y : Int} {ns : List Int} (h : ns.Perm [x, y]) (p : ns.Pairwise (· ≤ ·)) : ns = [min x y, max x y] := by
  match ns, h.length_eq with
  | [u, v], _ =>
    have le : u ≤ v := by simpa using p
    have hu : u = x ∨ u = y := by simpa using h.mem_iff.mp (List.mem_cons_self (a := u) (l := [v]))
    rcases hu with rfl | rfl
    · have e := List.perm_singleton.mp (List.Perm.cons_inv h)
      have e2 : v = y := by simpa using e
      subst e2
      rw [Int.min_eq_left le, Int.max_eq_right le]
    · have e := List.perm_singleton.mp (List.Perm.cons_inv (h.trans (List.Perm.swap _ _ _)))
      have e2 : v = x := by simpa using e
      subst e2
      rw [Int.min_eq_right le, Int.max_eq_left le]
def spMerged (K : PySem.W.Frag) : Sp := fun vs H Q _ => ∃ (l lp : Addr) (n : Nat) (ps : List (Nat × Nat)), vs = [.ref l, .ref lp] ∧ H l = some (.lst (mv (List.range n))) ∧ PrsAt K H lp ps ∧ 3 ≤ n ∧ n ≤ 6 ∧ ps.length ≤ 100 ∧ (∀ p ∈ ps, p.1 < n ∧ p.2 < n) ∧
  ∀ (d : Addr) (H' : Hp), Same H H' → DAt H' d (mergeP (List.range n) ps) → Q (.ref d) H'
theorem gd_range {n i : Nat} (h : i < n) : gd (List.range n) i = i := by
  unfold gd
  rw [List.getD_eq_getElem?_getD, List.getElem?_range h]
  rfl
theorem merge_same {ms : List Nat} {a b : Nat} (h : gd ms a = gd ms b) : mergeM ms a b = ms := by
  unfold mergeM
  rw [h, Nat.max_self, Nat.min_self]
  have e : (fun m : Nat => if m = gd ms b then gd ms b else m) = id := by
    funext m
    by_cases z : m = gd ms b
    · rw [if_pos z, z]; rfl
    · rw [if_neg z]; rfl
  rw [e, List.map_id]
theorem mergeP_take {ms : List Nat} {ps : List (Nat × Nat)} {k : Nat} {p : Nat × Nat} (h : ps[k]? = some p) : mergeP ms (ps.take (k + 1)) = mergeM (mergeP ms (ps.take k)) p.1 p.2 := by
  unfold mergeP
  rw [List.take_succ, h, List.foldl_append]
  rfl
theorem ok_Merged {f : Addr} {fd : FuncData} (T : Txt K mg) (F : FnP K "_law_merged" "_law_merged" sMerged f fd) : Pr P w K mg base 1 f ["_law_things", "_law_pairs"] (spMerged K) := by
  refine .of (F.ok scMerged (fun vs H Q E h => ?_) (fun cdv A outer s H vs Q E hr h => ⟨_, PSs.nox (pss_cons (ps_set (i := 2) scMerged.nd rfl (Or.inr rfl) (pe_callTy (call_dictP rfl) rfl (T.free _ (by decide +kernel)) (by decide +kernel) (pa_cons (pe_lc (own := [("_law_number", 3), ("_law_thing", 4)]) (g := _) (tt := tYes) rfl scMerged.nd (pi_enum rfl (T.free _ (by decide +kernel)) (pa_cons (pv 0) pa_nil)) (blkOk_by (N := nMerged) (sc := defScope sMerged) (by decide +kernel)) (fun _ _ _ _ _ => (tupG K 2 (pgs_cons (pg_name (i := 3) scMerged.nd rfl (Or.inl rfl)) (pgs_cons (pg_name (i := 4) scMerged.nd rfl (Or.inl rfl)) pgs_nil)))) (fun _ _ _ _ _ => pts_nil) (fun _ _ _ _ _ => (pe_tup (pa_cons (pv 4) (pa_cons (pv 3) pa_nil))))) pa_nil))) (pss_cons (ps_for PassesOwn.never rfl (pi_list (pv 1)) (tupG K 2 (pgs_cons (pg_name (i := 5) scMerged.nd rfl (Or.inl rfl)) (pgs_cons (pg_name (i := 6) scMerged.nd rfl (Or.inl rfl)) pgs_nil))) (pss_cons (ps_asg (pe_callB cr_sorted rfl (T.free _ (by decide +kernel)) (by decide +kernel) (pa_cons (pe_lst (pa_cons (pe_dget (by have := hr.un; show (A.deeper _).units + 1 < cLine; omega) (pv 2) (pv 5) (fun _ _ => rfl)) (pa_cons (pe_dget (by have := hr.un; show (A.deeper _).units + 1 < cLine; omega) (pv 2) (pv 6) (fun _ _ => rfl)) pa_nil))) pa_nil)) (pg_unl rfl (pgs_cons (pg_name (i := 7) scMerged.nd rfl (Or.inr rfl)) (pgs_cons (pg_name (i := 8) scMerged.nd rfl (Or.inr rfl)) pgs_nil)))) (pss_one (ps_if (pt_cmpR op_lt (pv 7) (pv 8) (nomark _)) (pss_one (ps_set (i := 2) scMerged.nd rfl (Or.inr rfl) (pe_callTy (call_dictP rfl) rfl (T.free _ (by decide +kernel)) (by decide +kernel) (pa_cons (pe_lc (own := [("_law_thing", 4)]) (g := gName 4) (tt := tYes) rfl scMerged.nd (pi_list (pv 0)) (blkOk_by (N := nMerged) (sc := defScope sMerged) (by decide +kernel)) (fun _ _ _ _ _ => (pg_name (i := 4) scMerged.nd rfl (Or.inl rfl))) (fun _ _ _ _ _ => pts_nil) (fun _ _ _ _ _ => (pe_tup (pa_cons (pv 4) (pa_cons (pe_ifExp (pt_cmpR op_eq (pe_dget (by have := hr.un; show (A.deeper _).units + 1 < cLine; omega) (pv 2) (pv 4) (fun _ _ => rfl)) (pv 8) (nomark _)) (pv 7) (pe_dget (by have := hr.un; show (A.deeper _).units + 1 < cLine; omega) (pv 2) (pv 4) (fun _ _ => rfl))) pa_nil))))) pa_nil)))) pss_nil)))) (pss_one (ps_ret (pv 2))))), ?_⟩)) (F.bindsN fun _ _ _ _ _ _ us hl => match us, hl with | [_, _], _ => rfl) F.kp
  · obtain ⟨l, lp, n, ps, rfl, _⟩ := h
    rfl
  · obtain ⟨l, lp, n, ps, rfl, hl, hps, n3, n6, lps, hlt, kk⟩ := h
    have big := big_line
    have rl : (List.range n).length = n := List.length_range
    have hn : ∀ {i : Nat} {x : V}, (mv (List.range n))[i]? = some x → i < n ∧ x = .int (i : Int) := fun {i x} e => by
      have hi : i < n := by
        have z := (List.getElem?_eq_some_iff.mp e).1
        rwa [mv_len, rl] at z
      refine ⟨hi, ?_⟩
      have z := mv_get (ms := List.range n) (i := i) (by rw [rl]; exact hi)
      rw [gd_range hi] at z
      exact (Option.some.inj (z.symm.trans e)).symm
    refine seq_reads (set_reads ⟨_, rfl, l, _, rfl, SqL.of hl, fun D hD => lc_it (walk_enum (K := K) (a := l) (xs := mv (List.range n))) (fun k H' => ∃ Us : List Addr, H' D = some (.lst (Us.map V.ref)) ∧ KvsAt K H' Us (fun i => i) k ∧ Same H H') ⟨[], upd_same, .nil, same_updN hD⟩ (fun i H' _ ⟨_, _, _, z⟩ => SqL.of (z _ _ hl)) ?_ ?_⟩)
    · rintro i x H1 H2 hi ⟨Us, hDs, kv, s1⟩ ⟨T0, n0, y0, rfl, hT, rfl, e1, e2⟩
      cases (show V.int (i : Nat) = n0 from Option.some.inj e1)
      obtain ⟨hin, rfl⟩ := hn e2
      have sT := same_updN (o := .tup [V.int (i : Nat), V.int (i : Int)]) hT
      refine ⟨T0, _, rfl, SqT.of upd_same, rfl, _, _, rfl, _, _, rfl, rfl, rfl, _, rfl, _, rfl, by show 2 ≤ sizeLine; omega, fun U nU => ?_⟩
      have sU := same_updN (o := .tup [V.int (i : Int), V.int (i : Int)]) nU
      have hD2 := sU _ _ (sT _ _ hDs)
      have lU := kvs_len kv
      refine ⟨_, hD2, by rw [List.length_map]; omega, Us ++ [U], by rw [upd_same, List.map_append]; rfl, kv.snoc (sT.trans sU) hD2 (SqT.of upd_same), fun b o e => ?_⟩
      rw [upd_ne (ne_of_none e hD)]
      exact sU _ _ (sT _ _ (s1 _ _ e))
    · rintro H1 ⟨Us, hDs, kv, s1⟩
      rw [mv_len, rl] at kv
      refine ⟨D, Us, _, rfl, SqL.of hDs, paired_mapR (g := fun i : Nat => ((Sum.inl (i : Int) : Key), V.int (i : Nat))) kv, fun d nd => ?_⟩
      have dA : DAt (upd H1 d (.dK (mergeK [] ((List.range n).map fun i : Nat => ((Sum.inl (i : Int) : Key), V.int (i : Nat)))))) d (List.range n) := dat_g (g := fun i => i) (rl) (fun i hi => (gd_range hi).symm) upd_same
      have sd : Same H (upd H1 d (.dK (mergeK [] ((List.range n).map fun i : Nat => ((Sum.inl (i : Int) : Key), V.int (i : Nat)))))) := s1.trans (same_updN nd)
      generalize upd H1 d (.dK (mergeK [] ((List.range n).map fun i : Nat => ((Sum.inl (i : Int) : Key), V.int (i : Nat))))) = G at dA sd
      dsimp only
      obtain ⟨Vs, hVs, pV⟩ := hps
      have lV := paired_len pV
      refine seq_reads ⟨_, rfl, lp, rfl, ⟨_, SqL.of (sd _ _ hVs)⟩, for_list (K := K) (a := lp) (xs := Vs.map V.ref) (fun k σ H' => ∃ (d : Addr) (z3 z4 z5 z6 z7 z8 : Option V), σ = [some (.ref l), some (.ref lp), some (.ref d), z3, z4, z5, z6, z7, z8] ∧ Same H H' ∧ DAt H' d (mergeP (List.range n) (ps.take k)))
        ⟨d, _, _, _, _, _, _, rfl, sd, dA⟩ (fun i σ H' _ ⟨_, _, _, _, _, _, _, _, s', _⟩ => SqL.of (s' _ _ hVs)) ?_ ?_⟩
      · rintro k x σ H2 hx ⟨d, z3, z4, z5, z6, z7, z8, rfl, s2, dA⟩
        rw [List.getElem?_map] at hx
        obtain ⟨U, hU, rfl⟩ := Option.map_eq_some_iff.mp hx
        obtain ⟨pr, hpr, sq⟩ := Lw.paired_get pV hU
        obtain ⟨pa, pb⟩ := hlt pr (List.mem_of_getElem? hpr)
        have lt : (mergeP (List.range n) (ps.take k)).length = n := by rw [mergeP_len, rl]
        have et := mergeP_take (ms := List.range n) hpr
        generalize mergeP (List.range n) (ps.take k) = t at dA lt et
        refine ⟨U, _, rfl, sqT_same s2 sq, rfl, _, _, rfl, _, _, rfl, rfl, ?_⟩
        dsimp only
        refine seq_reads ⟨_, rfl, _, rfl, d, _, rfl, dA.get (by omega), _, rfl, _, rfl, d, _, rfl, dA.get (by omega), by show 2 ≤ sizeLine; omega, fun q nq => ⟨q, [(gd t pr.1 : Int), (gd t pr.2 : Int)], rfl, SqL.of upd_same, by show 2 < 64; decide, fun ns' p perm pw np => ?_⟩⟩
        obtain rfl := sort2 perm pw
        have s3 := (same_updN (o := .lst [V.int (gd t pr.1 : Nat), V.int (gd t pr.2 : Nat)]) nq).trans (same_updN (o := .lst ([min (gd t pr.1 : Int) (gd t pr.2 : Int), max (gd t pr.1 : Int) (gd t pr.2 : Int)].map V.int)) np)
        refine ⟨p, _, rfl, SqL.of upd_same, rfl, _, _, rfl, _, _, rfl, rfl, ?_⟩
        dsimp only
        have s4 := s2.trans s3
        have dA2 := dA.same s3
        generalize upd (upd H2 q (.lst [V.int (gd t pr.1 : Nat), V.int (gd t pr.2 : Nat)])) p (.lst ([min (gd t pr.1 : Int) (gd t pr.2 : Int), max (gd t pr.1 : Int) (gd t pr.2 : Int)].map V.int)) = G2 at s4 dA2
        refine ⟨_, rfl, _, rfl, _, _, rfl, rfl, _, rfl, ?_⟩
        by_cases hlt2 : min (gd t pr.1 : Int) (gd t pr.2 : Int) < max (gd t pr.1 : Int) (gd t pr.2 : Int)
        · refine ifT (decide_eq_true hlt2) ?_
          refine ⟨_, rfl, l, rfl, ⟨_, SqL.of (s4 _ _ hl)⟩, fun D2 hD2 => lc_list (K := K) (a := l) (xs := mv (List.range n)) (fun k H' => ∃ Us : List Addr, H' D2 = some (.lst (Us.map V.ref)) ∧ KvsAt K H' Us (fun i => gd (mergeM t pr.1 pr.2) i) k ∧ Same G2 H') ⟨[], upd_same, .nil, same_updN hD2⟩ (fun i H' _ ⟨_, _, _, z⟩ => SqL.of (z _ _ (s4 _ _ hl))) ?_ ?_⟩
          · rintro i x H5 hx ⟨Ws, hDs, kv, s5⟩
            obtain ⟨hin, rfl⟩ := hn hx
            have dA5 := dA2.same s5
            have lU := kvs_len kv
            have fin : ∀ z : Nat, z = gd (mergeM t pr.1 pr.2) i → ∀ U, H5 U = none → ∃ acc, upd H5 U (.tup [V.int (i : Int), V.int (z : Nat)]) D2 = some (.lst acc) ∧ acc.length < sizeLine ∧ ∃ Us : List Addr, upd (upd H5 U (.tup [V.int (i : Int), V.int (z : Nat)])) D2 (.lst (acc ++ [V.ref U])) D2 = some (.lst (Us.map V.ref)) ∧
                KvsAt K (upd (upd H5 U (.tup [V.int (i : Int), V.int (z : Nat)])) D2 (.lst (acc ++ [V.ref U]))) Us (fun i => gd (mergeM t pr.1 pr.2) i) (i + 1) ∧ Same G2 (upd (upd H5 U (.tup [V.int (i : Int), V.int (z : Nat)])) D2 (.lst (acc ++ [V.ref U]))) := fun z hz U nU => by
              have sU := same_updN (o := .tup [V.int (i : Int), V.int (z : Nat)]) nU
              have hD3 := sU _ _ hDs
              refine ⟨_, hD3, by rw [List.length_map]; omega, Ws ++ [U], by rw [upd_same, List.map_append]; rfl, kv.snoc sU hD3 (SqT.of (by rw [upd_same, hz])), fun b o e => ?_⟩
              rw [upd_ne (ne_of_none e hD2)]
              exact sU _ _ (s5 _ _ e)
            have gm := gd_merge (ms := t) (a := pr.1) (b := pr.2) (i := i) (by omega)
            refine ⟨rfl, _, rfl, _, rfl, _, rfl, d, _, rfl, dA5.get (by omega), _, rfl, rfl, _, rfl, ?_⟩
            by_cases e : gd t i = max (gd t pr.1) (gd t pr.2)
            · rw [if_pos e] at gm
              refine ifT (decide_eq_true (by rw [e]; congr 1; omega)) ⟨_, rfl, by show 2 ≤ sizeLine; omega, fun U nU => ?_⟩
              have z := fin (min (gd t pr.1) (gd t pr.2)) gm.symm U nU
              have e3 : ((min (gd t pr.1) (gd t pr.2) : Nat) : Int) = min (gd t pr.1 : Int) (gd t pr.2 : Int) := by omega
              rw [e3] at z
              exact z
            · rw [if_neg e] at gm
              refine ifF (decide_eq_false fun z => e ?_) ⟨_, rfl, _, rfl, d, _, rfl, dA5.get (by omega), by show 2 ≤ sizeLine; omega, fun U nU => fin (gd t i) gm.symm U nU⟩
              have z2 := V.int.inj z
              omega
          · rintro H5 ⟨Ws, hDs, kv, s5⟩
            rw [mv_len, rl] at kv
            refine ⟨D2, Ws, _, rfl, SqL.of hDs, paired_mapR (g := fun i : Nat => ((Sum.inl (i : Int) : Key), V.int (gd (mergeM t pr.1 pr.2) i : Nat))) kv, fun d2 nd2 => ?_⟩
            refine ⟨d2, _, _, _, _, _, _, rfl, s4.trans (s5.trans (same_updN nd2)), ?_⟩
            rw [et]
            exact dat_g (g := fun i => gd (mergeM t pr.1 pr.2) i) (by rw [merge_len, lt]) (fun i hi => rfl) upd_same
        · refine ifF (decide_eq_false hlt2) ?_
          refine ⟨d, _, _, _, _, _, _, rfl, s4, ?_⟩
          rw [et, merge_same (by omega)]
          exact dA2
      · rintro σ H2 ⟨d, z3, z4, z5, z6, z7, z8, rfl, s2, dA⟩
        rw [List.length_map, lV, List.take_length] at dA
        exact ⟨_, rfl, kk d H2 s2 dA⟩
end
end K02

set_option Elab.async false
set_option linter.all false
set_option maxRecDepth 100000
set_option maxHeartbeats 4000000
namespace K02
open PySem PySem.Spec PyProof.Rows L2 Lw
section
variable {P : Program} {w : World} {K : PySem.W.Frag} {mg : Str → Option Value} {base : Heap}
theorem flat_mv (ms : List Nat) : (mv ms).all flatV = true := by
  rw [List.all_eq_true]
  intro x hx
  obtain ⟨m, _, rfl⟩ := List.mem_map.mp hx
  rfl
theorem eqV_nat (a b : Nat) : eqV (.int (a : Int)) (.int (b : Int)) = decide (a = b) := by
  rw [Bool.eq_iff_iff]
  simp [eqV]
  omega
/-! ### marks of a dict -/
def spLMarks (K : PySem.W.Frag) : Sp := fun vs H Q _ => ∃ (d l : Addr) (ms : List Nat), vs = [.ref d, .ref l] ∧ DAt H d ms ∧ H l = some (.lst (mv (List.range ms.length))) ∧ Canon ms ∧ ∀ (t : Addr) (H' : Hp), Same H H' → SqT K H' t (mv ms) → Q (.ref t) H'
theorem ok_LMarks {f : Addr} {fd : FuncData} (T : Txt K mg) (F : FnP K "_law_marks" "_law_marks" sLMarks f fd) : Pr P w K mg base 1 f ["_law_found", "_law_things"] (spLMarks K) := by
  refine .of (F.ok scLMarks (fun vs H Q E h => ?_) (fun cdv A outer s H vs Q E hr h => ⟨_, PSs.nox (pss_cons (ps_set (i := 2) scLMarks.nd rfl (Or.inr rfl) (pe_lc (own := [("_law_thing", 3)]) (g := gName 3) (tt := tYes) rfl scLMarks.nd (pi_list (pv 1)) (blkOk_by (N := nLMarks) (sc := defScope sLMarks) (by decide +kernel)) (fun _ _ _ _ _ => (pg_name (i := 3) scLMarks.nd rfl (Or.inl rfl))) (fun _ _ _ _ _ => pts_nil) (fun _ _ _ _ _ => (pe_dget (by have := hr.un; show (A.deeper _).units + 1 < cLine; omega) (pv 0) (pv 3) (fun _ _ => rfl))))) (pss_one (ps_ret (pe_callTy call_tuple_of rfl (T.free _ (by decide +kernel)) (by decide +kernel) (pa_cons (pe_lc (own := [("_law_number", 4)]) (g := gName 4) (tt := tYes) rfl scLMarks.nd (pi_list (pv 2)) (blkOk_by (N := nLMarks) (sc := defScope sLMarks) (by decide +kernel)) (fun _ _ _ _ _ => (pg_name (i := 4) scLMarks.nd rfl (Or.inl rfl))) (fun _ _ _ _ _ => pts_nil) (fun _ _ _ _ _ => (bmK K PySem.F.plainAttrs_list PySem.F.slot_list_index PySem.F.type_list_index (idxF K) (pv 2) (pa_cons (pv 4) pa_nil)))) pa_nil))))), ?_⟩)) (F.bindsN fun _ _ _ _ _ _ us hl => match us, hl with | [_, _], _ => rfl) F.kp
  · obtain ⟨d, l, ms, rfl, _⟩ := h
    rfl
  · obtain ⟨d, l, ms, rfl, dA, hl, c, kk⟩ := h
    have big := big_line
    have c6 := c.hi
    refine seq_reads ⟨_, rfl, l, rfl, ⟨_, SqL.of hl⟩, fun D hD => lc_list (K := K) (a := l) (xs := mv (List.range ms.length)) (fun k H' => H' D = some (.lst ((mv ms).take k)) ∧ Same H H') ⟨upd_same, same_updN hD⟩ (fun i H' _ z => SqL.of (z.2 _ _ hl)) ?_ ?_⟩
    · rintro i x H1 hx ⟨h1, s1⟩
      have hi : i < ms.length := by
        have z := (List.getElem?_eq_some_iff.mp hx).1
        rwa [mv_len, List.length_range] at z
      have z := mv_get (ms := List.range ms.length) (i := i) (by rw [List.length_range]; exact hi)
      rw [gd_range hi] at z
      cases Option.some.inj (z.symm.trans hx)
      refine ⟨rfl, _, rfl, _, rfl, d, _, rfl, (dA.same s1).get hi, _, h1, by rw [List.length_take, mv_len]; omega, ?_, fun b o e => ?_⟩
      · rw [upd_same, List.take_succ, mv_get hi]
        rfl
      · rw [upd_ne (ne_of_none e hD)]
        exact s1 _ _ e
    · rintro H1 ⟨h1, s1⟩
      have el : (mv (List.range ms.length)).length = (mv ms).length := by rw [mv_len, mv_len, List.length_range]
      rw [el, List.take_length] at h1
      dsimp only
      refine ⟨_, rfl, D, rfl, ⟨_, SqL.of h1⟩, fun G hG => lc_list (K := K) (a := D) (xs := mv ms) (fun k H' => H' G = some (.lst ((mv ms).take k)) ∧ Same H1 H') ⟨upd_same, same_updN hG⟩ (fun i H' _ z => SqL.of (z.2 _ _ h1)) ?_ ?_⟩
      · rintro i x H2 hx ⟨h2, s2⟩
        have hi : i < ms.length := by
          have z := (List.getElem?_eq_some_iff.mp hx).1
          rwa [mv_len] at z
        cases Option.some.inj ((mv_get hi).symm.trans hx)
        have li := c.lt hi
        have hD2 := SqL.of (K := K) (s2 _ _ h1)
        refine ⟨rfl, _, rfl, .inl ⟨rfl, _, hD2⟩, _, rfl, D, mv ms, _, gd ms i, .int (gd ms i : Nat), rfl, rfl, hD2, rfl, flat_mv ms, ?_, ?_, ?_, ?_⟩
        · have z := mv_get li
          rw [c.fix i hi] at z
          exact z
        · rw [eqV_nat]
          exact decide_eq_true rfl
        · intro m z' hm hz'
          have lm : m < ms.length := by omega
          cases Option.some.inj ((mv_get lm).symm.trans hz')
          rw [eqV_nat]
          have le := c.le m lm
          exact decide_eq_false (by omega)
        · refine ⟨_, h2, by rw [List.length_take, mv_len]; omega, ?_, fun b o e => ?_⟩
          · rw [upd_same, List.take_succ, mv_get hi]
            rfl
          · rw [upd_ne (ne_of_none e hG)]
            exact s2 _ _ e
      · rintro H2 ⟨h2, s2⟩
        rw [List.take_length] at h2
        exact ⟨G, _, rfl, .inl ⟨SqL.of h2, fun p hp => kk p _ (s1.trans (s2.trans (same_updN hp))) (SqT.of upd_same)⟩⟩
/-! ### what lies within -/
def spLieW (K : PySem.W.Frag) : Sp := fun vs H Q _ => ∃ (t u : Addr) (ms os : List Nat), vs = [.ref t, .ref u] ∧ SqT K H t (mv ms) ∧ SqT K H u (mv os) ∧ Canon ms ∧ ms.length = os.length ∧ ∀ H', Same H H' → Q (.bl (withinB ms os)) H'
theorem ok_LieW {f : Addr} {fd : FuncData} (T : Txt K mg) (F : FnP K "_law_lie_within" "_law_lie_within" sLieW f fd) : Pr P w K mg base 1 f ["_law_one", "_law_other"] (spLieW K) := by
  refine .of (F.ok scLieW (fun vs H Q E h => ?_) (fun cdv A outer s H vs Q E hr h => ⟨_, PSs.nox (pss_one (ps_ret (pe_callB (cr_all rfl) rfl (T.free _ (by decide +kernel)) (by decide +kernel) (pa_cons (pe_lc (own := [("_law_number", 2), ("_law_mark", 3)]) (g := _) (tt := tYes) rfl scLieW.nd (pi_enumT rfl (T.free _ (by decide +kernel)) (pa_cons (pv 0) pa_nil)) (blkOk_by (N := nLieW) (sc := defScope sLieW) (by decide +kernel)) (fun _ _ _ _ _ => (tupG K 2 (pgs_cons (pg_name (i := 2) scLieW.nd rfl (Or.inl rfl)) (pgs_cons (pg_name (i := 3) scLieW.nd rfl (Or.inl rfl)) pgs_nil)))) (fun _ _ _ _ _ => pts_nil) (fun _ _ _ _ _ => (pe_cmpR op_eq (pe_ix (ixT K) (pv 1) (pv 3) (fun _ _ => rfl)) (pe_ix (ixT K) (pv 1) (pv 2) (fun _ _ => rfl)) (nomark _)))) pa_nil)))), ?_⟩)) (F.bindsN fun _ _ _ _ _ _ us hl => match us, hl with | [_, _], _ => rfl) F.kp
  · obtain ⟨t, u, ms, os, rfl, _⟩ := h
    rfl
  · obtain ⟨t, u, ms, os, rfl, ht, hu, c, hl, kk⟩ := h
    have big := big_line
    have c6 := c.hi
    refine ⟨_, rfl, t, mv ms, rfl, ht, fun D hD => lc_it (walk_enumT (K := K) (a := t) (xs := mv ms)) (fun i H' => H' D = some (.lst (((List.range i).map fun k => gd os k == gd os (gd ms k)).map V.bl)) ∧ Same H H') ⟨upd_same, same_updN hD⟩ (fun i H' _ z => sqT_same z.2 ht) ?_ ?_⟩
    · rintro i x H1 H2 hi ⟨h1, s1⟩ ⟨T0, n0, y0, rfl, hT, rfl, e1, e2⟩
      cases (show V.int (i : Nat) = n0 from Option.some.inj e1)
      rw [mv_len] at hi
      cases (show V.int (gd ms i : Nat) = y0 from Option.some.inj ((mv_get hi).symm.trans e2))
      have s2 := s1.trans (same_updN (o := .tup [V.int (i : Nat), V.int (gd ms i : Nat)]) hT)
      have li := c.lt hi
      refine ⟨T0, _, rfl, SqT.of upd_same, rfl, _, _, rfl, _, _, rfl, rfl, rfl, _, rfl, _, rfl, u, mv os, _, _, rfl, rfl, sqT_same s2 hu, mv_at (by omega), _, rfl, _, rfl, u, mv os, _, _, rfl, rfl, sqT_same s2 hu, mv_at (by omega), rfl, ?_⟩
      have e : decide (V.int (gd os (gd ms i) : Nat) = V.int (gd os i : Nat)) = (gd os i == gd os (gd ms i)) := by
        rw [dec_int, Bool.eq_iff_iff, beq_iff_eq, beq_iff_eq]
        omega
      rw [e]
      refine ⟨_, (by rw [upd_ne (ne_of_none h1 hT)]; exact h1), by rw [List.length_map, List.length_map, List.length_range]; omega, ?_, fun b o e => ?_⟩
      · rw [upd_same, List.range_succ, List.map_append, List.map_append]
        rfl
      · rw [upd_ne (ne_of_none e hD)]
        exact s2 _ _ e
    · rintro H1 ⟨h1, s1⟩
      rw [mv_len] at h1
      refine ⟨D, _, rfl, SqL.of h1, ?_⟩
      have e : ((List.range ms.length).map fun k => gd os k == gd os (gd ms k)).all id = withinB ms os := by
        unfold withinB
        rw [List.all_map]
        rfl
      rw [e]
      exact kk _ s1
/-! ### in common -/
def spCommon (K : PySem.W.Frag) : Sp := fun vs H Q _ => ∃ (t u : Addr) (ms os : List Nat), vs = [.ref t, .ref u] ∧ SqT K H t (mv ms) ∧ SqT K H u (mv os) ∧ Canon ms ∧ ms.length = os.length ∧ ∀ (p : Addr) (H' : Hp), Same H H' → SqT K H' p (mv (andM ms os)) → Q (.ref p) H'
theorem ok_Common {f : Addr} {fd : FuncData} (T : Txt K mg) (F : FnP K "_law_common_marks" "_law_common_marks" sCommon f fd) : Pr P w K mg base 1 f ["_law_one", "_law_other"] (spCommon K) := by
  refine .of (F.ok scCommon (fun vs H Q E h => ?_) (fun cdv A outer s H vs Q E hr h => ⟨_, PSs.nox (pss_cons (ps_set (i := 2) scCommon.nd rfl (Or.inr rfl) (pe_listZip rfl rfl (T.free _ (by decide +kernel)) rfl (T.free _ (by decide +kernel)) (pa_cons (pv 0) (pa_cons (pv 1) pa_nil)))) (pss_one (ps_ret (pe_callTy call_tuple_of rfl (T.free _ (by decide +kernel)) (by decide +kernel) (pa_cons (pe_lc (own := [("_law_pair", 3)]) (g := gName 3) (tt := tYes) rfl scCommon.nd (pi_list (pv 2)) (blkOk_by (N := nCommon) (sc := defScope sCommon) (by decide +kernel)) (fun _ _ _ _ _ => (pg_name (i := 3) scCommon.nd rfl (Or.inl rfl))) (fun _ _ _ _ _ => pts_nil) (fun _ _ _ _ _ => (bmK K PySem.F.plainAttrs_list PySem.F.slot_list_index PySem.F.type_list_index (idxK K (by have := hr.un; show (A.deeper _).units + 65 < cLine; omega)) (pv 2) (pa_cons (pv 3) pa_nil)))) pa_nil))))), ?_⟩)) (F.bindsN fun _ _ _ _ _ _ us hl => match us, hl with | [_, _], _ => rfl) F.kp
  · obtain ⟨t, u, ms, os, rfl, _⟩ := h
    rfl
  · obtain ⟨t, u, ms, os, rfl, ht, hu, c, hl, kk⟩ := h
    have big := big_line
    have c6 := c.hi
    refine seq_reads (set_reads ⟨_, rfl, _, rfl, t, u, mv ms, mv os, rfl, ht, hu, by rw [mv_len, mv_len]; exact hl, by rw [mv_len]; omega, fun l Ts H2 s2 nl hl2 hP => ?_⟩)
    dsimp only
    have lenT : Ts.length = ms.length := by
      have e := paired_len hP
      rw [List.length_zip, mv_len, mv_len] at e
      omega
    refine ⟨_, rfl, l, rfl, ⟨_, SqL.of hl2⟩, fun D hD => lc_list (K := K) (a := l) (xs := Ts.map V.ref) (fun i H' => H' D = some (.lst ((mv (andM ms os)).take i)) ∧ Same H2 H') ⟨upd_same, same_updN hD⟩ (fun i H' _ z => SqL.of (z.2 _ _ hl2)) ?_ ?_⟩
    · rintro i x H3 hx ⟨h1, s1⟩
      have hi : i < ms.length := by
        have e := (List.getElem?_eq_some_iff.mp hx).1
        rw [List.length_map] at e
        omega
      rw [List.getElem?_map] at hx
      obtain ⟨Ti, hTi, rfl⟩ := Option.map_eq_some_iff.mp hx
      have hP3 : PairsAt H H3 Ts ((mv ms).zip (mv os)) := hP.same fun T x _ e => s1 _ _ e
      obtain ⟨pr, hpr, np, ep⟩ := Lw.paired_get hP3 hTi
      have hz : ((mv ms).zip (mv os))[i]? = some (V.int (gd ms i : Nat), V.int (gd os i : Nat)) := by
        rw [List.getElem?_zip_eq_some]
        exact ⟨mv_get hi, mv_get (hl ▸ hi)⟩
      cases Option.some.inj (hpr.symm.trans hz)
      obtain ⟨j1, j2, j3⟩ := idx_spec hl hi
      have jl : (ms.zip os).idxOf (gd ms i, gd os i) < ms.length := by omega
      refine ⟨rfl, _, rfl, .inl ⟨rfl, _, SqL.of (s1 _ _ hl2)⟩, _, rfl, l, .ref Ti, pdP (gd ms i, gd os i), (ms.zip os).map pdP, (ms.zip os).idxOf (gd ms i, gd os i), pdP (gd ms i, gd os i), rfl, rfl, .lst (SqL.of (s1 _ _ hl2)) (pairs_dp hP3), .tup (SqT.of ep) (.cons (.int _) (.cons (.int _) .nil)), shaped_pds _, shaped_pd _, ?_, ?_, ?_, ?_⟩
      · rw [List.getElem?_map, zip_at hl jl, j2, j3]
        rfl
      · rw [eqv_pd]
        exact decide_eq_true rfl
      · intro m z' hm hz'
        rw [List.getElem?_map] at hz'
        obtain ⟨pz, hpz, rfl⟩ := Option.map_eq_some_iff.mp hz'
        rw [eqv_pd]
        refine decide_eq_false fun e => ?_
        have le := idxOf_le (x := (gd ms i, gd os i)) (e ▸ hpz)
        omega
      · have lenA : (mv (andM ms os)).length = ms.length := by rw [mv_len, and_len hl]
        refine ⟨_, h1, by rw [List.length_take, lenA]; omega, ?_, fun c o e => ?_⟩
        · rw [upd_same, List.take_succ, mv_get (by rw [and_len hl]; exact hi), gd_and hl hi]
          rfl
        · rw [upd_ne (ne_of_none e hD)]
          exact s1 _ _ e
    · rintro H3 ⟨h1, s1⟩
      have lenA : (mv (andM ms os)).length = (Ts.map V.ref).length := by rw [mv_len, and_len hl, List.length_map, lenT]
      rw [← lenA, List.take_length] at h1
      exact ⟨D, _, rfl, .inl ⟨SqL.of h1, fun p hp => kk p _ ((s2.trans s1).trans (same_updN hp)) (SqT.of upd_same)⟩⟩
/-! ### joined -/
def spJoined (K : PySem.W.Frag) : Sp := fun vs H Q _ => ∃ (t u : Addr) (ms os : List Nat), vs = [.ref t, .ref u] ∧ SqT K H t (mv ms) ∧ SqT K H u (mv os) ∧ Canon ms ∧ Canon os ∧ ms.length = os.length ∧ ∀ (p : Addr) (H' : Hp), Same H H' → SqT K H' p (mv (orM ms os)) → Q (.ref p) H'
/-- the pairs of one tuple, so far -/
theorem prs_take {ms : List Nat} {i : Nat} (h : i < ms.length) : (prs ms).take (i + 1) = (prs ms).take i ++ [(gd ms i, i)] := by
  unfold prs
  rw [List.take_succ, List.getElem?_map, List.getElem?_range h]
  rfl
theorem prs_len (ms : List Nat) : (prs ms).length = ms.length := by
  unfold prs
  rw [List.length_map, List.length_range]
theorem paired_append {α β : Type} {F : α → β → Prop} : ∀ {l l2 : List α} {m m2 : List β}, Paired F l m → Paired F l2 m2 → Paired F (l ++ l2) (m ++ m2)
  | _, _, _, _, .nil, q => q
  | _, _, _, _, .cons r t, q => .cons r (paired_append t q)
/-- the first k pairs stand in a list -/
def PrsTo (K : PySem.W.Frag) (H : Hp) (D : Addr) (ps : List (Nat × Nat)) : Prop := ∃ Us : List Addr, H D = some (.lst (Us.map V.ref)) ∧ Paired (fun U p => SqT K H U [.int (p.1 : Nat), .int (p.2 : Nat)]) Us ps
theorem prsTo_snoc {H1 H2 : Hp} {D U : Addr} {ps : List (Nat × Nat)} {p : Nat × Nat} (h : PrsTo K H1 D ps) (hl : ps.length < 100) (s : Same H1 H2) (hU : SqT K H2 U [.int (p.1 : Nat), .int (p.2 : Nat)]) : ∃ acc, H2 D = some (.lst acc) ∧ acc.length < sizeLine ∧ PrsTo K (upd H2 D (.lst (acc ++ [V.ref U]))) D (ps ++ [p]) := by
  obtain ⟨Us, e, pr⟩ := h
  have big := big_line
  have l := paired_len pr
  have hD := s _ _ e
  refine ⟨_, hD, by rw [List.length_map]; omega, Us ++ [U], by rw [upd_same, List.map_append]; rfl, ?_⟩
  exact paired_snoc (paired_mono (fun _ _ q => sqT_upd hD (sqT_same s q)) pr) (sqT_upd hD hU)
theorem ok_Joined {f : Addr} {fd : FuncData} (T : Txt K mg) (F : FnP K "_law_joined_marks" "_law_joined_marks" sJoined f fd) (GMerged : Pr P w K mg base 1 (ga K "_law_merged") ["_law_things", "_law_pairs"] (spMerged K)) (GLMarks : Pr P w K mg base 1 (ga K "_law_marks") ["_law_found", "_law_things"] (spLMarks K)) :
    Pr P w K mg base 2 f ["_law_one", "_law_other"] (spJoined K) := by
  refine .of (F.ok scJoined (fun vs H Q E h => ?_) (fun cdv A outer s H vs Q E hr h => ⟨_, PSs.nox (pss_cons (ps_set (i := 2) scJoined.nd rfl (Or.inl rfl) (pe_op op_cat (pe_lc (own := [("_law_number", 3), ("_law_mark", 4)]) (g := _) (tt := tYes) rfl scJoined.nd (pi_enumT rfl (T.free _ (by decide +kernel)) (pa_cons (pv 0) pa_nil)) (blkOk_by (N := nJoined) (sc := defScope sJoined) (by decide +kernel)) (fun _ _ _ _ _ => (tupG K 2 (pgs_cons (pg_name (i := 3) scJoined.nd rfl (Or.inl rfl)) (pgs_cons (pg_name (i := 4) scJoined.nd rfl (Or.inl rfl)) pgs_nil)))) (fun _ _ _ _ _ => pts_nil) (fun _ _ _ _ _ => (pe_tup (pa_cons (pv 4) (pa_cons (pv 3) pa_nil))))) (pe_lc (own := [("_law_number", 3), ("_law_mark", 4)]) (g := _) (tt := tYes) rfl scJoined.nd (pi_enumT rfl (T.free _ (by decide +kernel)) (pa_cons (pv 1) pa_nil)) (blkOk_by (N := nJoined) (sc := defScope sJoined) (by decide +kernel)) (fun _ _ _ _ _ => (tupG K 2 (pgs_cons (pg_name (i := 3) scJoined.nd rfl (Or.inl rfl)) (pgs_cons (pg_name (i := 4) scJoined.nd rfl (Or.inl rfl)) pgs_nil)))) (fun _ _ _ _ _ => pts_nil) (fun _ _ _ _ _ => (pe_tup (pa_cons (pv 4) (pa_cons (pv 3) pa_nil))))))) (pss_cons (ps_set (i := 5) scJoined.nd rfl (Or.inl rfl) (pe_listRg rfl rfl (T.free _ (by decide +kernel)) (prg_1 rfl (T.free _ (by decide +kernel)) (pe_callB (lenK K) rfl (T.free _ (by decide +kernel)) (by decide +kernel) (pa_cons (pv 0) pa_nil))))) (pss_one (ps_ret (pcl GLMarks (hr.mono (by decide)) rfl (T.gl "_law_marks" (by decide +kernel)) (pa_cons (pcl GMerged (hr.mono (by decide)) rfl (T.gl "_law_merged" (by decide +kernel)) (pa_cons (pv 5) (pa_cons (pv 2) pa_nil))) (pa_cons (pv 5) pa_nil))))))), ?_⟩)) (F.bindsN fun _ _ _ _ _ _ us hl => match us, hl with | [_, _], _ => rfl) F.kp
  · obtain ⟨t, u, ms, os, rfl, _⟩ := h
    rfl
  · obtain ⟨t, u, ms, os, rfl, ht, hu, c, d, hl, kk⟩ := h
    have big := big_line
    have c3 := c.lo
    have c6 := c.hi
    have pl := prs_len ms
    have po := prs_len os
    refine seq_reads (set_reads ⟨_, rfl, t, mv ms, rfl, ht, fun D hD => lc_it (walk_enumT (K := K) (a := t) (xs := mv ms)) (fun i H' => PrsTo K H' D ((prs ms).take i) ∧ Same H H') ⟨⟨[], upd_same, .nil⟩, same_updN hD⟩ (fun i H' _ z => sqT_same z.2 ht) ?_ ?_⟩)
    · rintro i x H1 H2 hi ⟨h1, s1⟩ ⟨T0, n0, y0, rfl, hT, rfl, e1, e2⟩
      cases (show V.int (i : Nat) = n0 from Option.some.inj e1)
      rw [mv_len] at hi
      cases (show V.int (gd ms i : Nat) = y0 from Option.some.inj ((mv_get hi).symm.trans e2))
      have sT := same_updN (o := .tup [V.int (i : Nat), V.int (gd ms i : Nat)]) hT
      refine ⟨T0, _, rfl, SqT.of upd_same, rfl, _, _, rfl, _, _, rfl, rfl, rfl, _, rfl, _, rfl, by show 2 ≤ sizeLine; omega, fun U nU => ?_⟩
      have sU := same_updN (o := .tup [V.int (gd ms i : Nat), V.int (i : Nat)]) nU
      obtain ⟨acc, g1, g2, g3⟩ := prsTo_snoc (p := (gd ms i, i)) h1 (by rw [List.length_take]; omega) (sT.trans sU) (SqT.of upd_same)
      refine ⟨acc, g1, g2, by rw [prs_take hi]; exact g3, fun b o e => ?_⟩
      rw [upd_ne (ne_of_none e hD)]
      exact sU _ _ (sT _ _ (s1 _ _ e))
    · rintro H1 ⟨h1, s1⟩
      rw [mv_len, ← pl, List.take_length] at h1
      refine ⟨_, rfl, u, mv os, rfl, sqT_same s1 hu, fun D2 hD2 => lc_it (walk_enumT (K := K) (a := u) (xs := mv os)) (fun i H' => PrsTo K H' D2 ((prs os).take i) ∧ Same H1 H') ⟨⟨[], upd_same, .nil⟩, same_updN hD2⟩ (fun i H' _ z => sqT_same (s1.trans z.2) hu) ?_ ?_⟩
      · rintro i x H2 H3 hi ⟨h2, s2⟩ ⟨T0, n0, y0, rfl, hT, rfl, e1, e2⟩
        cases (show V.int (i : Nat) = n0 from Option.some.inj e1)
        rw [mv_len] at hi
        cases (show V.int (gd os i : Nat) = y0 from Option.some.inj ((mv_get hi).symm.trans e2))
        have sT := same_updN (o := .tup [V.int (i : Nat), V.int (gd os i : Nat)]) hT
        refine ⟨T0, _, rfl, SqT.of upd_same, rfl, _, _, rfl, _, _, rfl, rfl, rfl, _, rfl, _, rfl, by show 2 ≤ sizeLine; omega, fun U nU => ?_⟩
        have sU := same_updN (o := .tup [V.int (gd os i : Nat), V.int (i : Nat)]) nU
        obtain ⟨acc, g1, g2, g3⟩ := prsTo_snoc (p := (gd os i, i)) h2 (by rw [List.length_take]; omega) (sT.trans sU) (SqT.of upd_same)
        refine ⟨acc, g1, g2, by rw [prs_take hi]; exact g3, fun b o e => ?_⟩
        rw [upd_ne (ne_of_none e hD2)]
        exact sU _ _ (sT _ _ (s2 _ _ e))
      · rintro H2 ⟨h2, s2⟩
        rw [mv_len, ← po, List.take_length] at h2
        obtain ⟨Us, u1, u2⟩ := h1
        obtain ⟨Vs, v1, v2⟩ := h2
        have lu := paired_len u2
        have lv := paired_len v2
        refine ⟨D, D2, _, _, rfl, rfl, s2 _ _ u1, v1, by rw [List.length_map, List.length_map]; omega, fun q nq => ?_⟩
        have sq := same_updN (o := .lst (Us.map V.ref ++ Vs.map V.ref)) nq
        have hq : PrsAt K (upd H2 q (.lst (Us.map V.ref ++ Vs.map V.ref))) q (prs ms ++ prs os) := ⟨Us ++ Vs, by rw [upd_same, List.map_append], by
          refine paired_append (paired_mono (fun _ _ z => sqT_same (s2.trans sq) z) u2) (paired_mono (fun _ _ z => sqT_same sq z) v2)⟩
        have s5 := s1.trans (s2.trans sq)
        generalize upd H2 q (.lst (Us.map V.ref ++ Vs.map V.ref)) = G at hq s5
        dsimp only
        refine seq_reads (set_reads ⟨_, rfl, t, mv ms, rfl, .inr (sqT_same s5 ht), _, rfl, ⟨by omega, by omega, by omega, ?_, ?_⟩, fun r nr => ?_⟩)
        · rw [mv_len]; omega
        · rw [mv_len]; omega
        · have er : rgV 0 ((mv ms).length : Int) = mv (List.range ms.length) := rg_mv _ _ (by rw [mv_len])
          rw [er]
          have hr2 : upd G r (.lst (mv (List.range ms.length))) r = some (.lst (mv (List.range ms.length))) := upd_same
          have sr := same_updN (o := .lst (mv (List.range ms.length))) nr
          dsimp only
          refine ⟨_, rfl, _, rfl, r, q, ms.length, prs ms ++ prs os, rfl, hr2, hq.same sr, c3, c6, by rw [List.length_append]; omega, fun p hp => ?_, fun dd H5 s6 dA => ?_⟩
          · rcases List.mem_append.mp hp with h | h
            · obtain ⟨i, hi, rfl⟩ := List.mem_map.mp h
              have hi := List.mem_range.mp hi
              exact ⟨c.lt hi, hi⟩
            · obtain ⟨i, hi, rfl⟩ := List.mem_map.mp h
              have hi := List.mem_range.mp hi
              exact ⟨hl ▸ d.lt hi, hl ▸ hi⟩
          · rw [joined_eq c d hl] at dA
            have ol := or_len c d hl
            refine ⟨_, rfl, dd, r, orM ms os, rfl, dA, by rw [ol]; exact s6 _ _ hr2, or_canon c d hl, fun p H6 s7 hp => kk p H6 (s5.trans (sr.trans (s6.trans s7))) hp⟩
end
end K02

set_option Elab.async false
set_option linter.all false
set_option maxRecDepth 100000
set_option maxHeartbeats 4000000
namespace K02
open PySem PySem.Spec PyProof.Rows L2 Lw
abbrev sWInit : Stmt := inClass (top 2) 0
abbrev nWInit : List Str := ["self", "value"]
theorem scWInit : FnScope nWInit ["self", "value"] (defScope sWInit) := ⟨rfl, rfl, rfl, by decide +kernel, rfl, by decide +kernel, by decide +kernel⟩
abbrev sTold : Stmt := top 21
abbrev nTold : List Str := ["_law_look", "_law_caught", "_law_back", "error"]
theorem scTold : FnScope nTold ["_law_look"] (defScope sTold) := ⟨rfl, rfl, rfl, by decide +kernel, rfl, by decide +kernel, by decide +kernel⟩
abbrev cO (K : PySem.W.Frag) : Addr := ga K "OtherWires"
abbrev fW (K : PySem.W.Frag) : Addr := ma K (ga K "WireError") "__init__"
section
variable {P : Program} {w : World} {K : PySem.W.Frag} {mg : Str → Option Value} {base : Heap}
/-! ### the error -/
def spWInit (K : PySem.W.Frag) : Sp := fun vs H Q _ => ∃ (a C : Addr) (v : V), vs = [.ref a, v] ∧ OexC K C ∧ PySem.W.findIn K (.ref C) "value" = some none ∧ H a = some (exo a C none) ∧
  ∀ (d : Addr) (H' : Hp), H d = none → H' a = some (exo a C (some d)) → H' d = some (exd d [("value", v)]) → (∀ b o, H b = some o → b ≠ a → H' b = some o) → Q .non H'
theorem ok_WInit {f : Addr} {fd : FuncData} (F : FnP K "__init__" "WireError.__init__" sWInit f fd) : Pr P w K mg base 1 f ["self", "value"] (spWInit K) := by
  refine .of (F.ok scWInit (fun vs H Q E h => ?_) (fun cdv A outer s H vs Q E hr h => ⟨_, PSs.nox (pss_one (ps_ost (pv 0) (pv 1))), ?_⟩)) (F.bindsN fun _ _ _ _ _ _ us hl => match us, hl with | [_, _], _ => rfl) F.kp
  · obtain ⟨a, C, v, rfl, _⟩ := h
    rfl
  · obtain ⟨a, C, v, rfl, T, hno, ea, k⟩ := h
    refine ⟨_, rfl, _, rfl, a, C, rfl, T, hno, .inl ⟨ea, fun dx n ne => k dx _ n upd_same (by rw [upd_ne ne]; exact upd_same) fun b o e hb => ?_⟩⟩
    rw [upd_ne hb, upd_ne (ne_of_none e n)]
    exact e
/-- what goes out: OtherWires with the very value -/
def EO (K : PySem.W.Frag) (b : V) (H : Hp) (E : XK) : Prop := ∀ (d : Addr) (H' : Hp), Same H H' → H' d = some (.xd [("value", b)]) → E (.ref (cO K)) (some d) H'
def spChkX (K : PySem.W.Frag) : Sp := fun vs H _ E => ∃ (a b : Addr) (ms os : List Nat), vs = [.ref a, .ref b] ∧ StAt K H a ms ∧ StAt K H b os ∧ ms.length ≠ os.length ∧ EO K (.ref b) H E
/-- a def's promise, an error may go out -/
structure PrX (P : Program) (w : World) (K : PySem.W.Frag) (mg : Str → Option Value) (base : Heap) (k : Nat) (f : Addr) (ps : List Str) (sp : Sp) : Prop where
  ex : ∃ fd, FnOk P w K mg base (L2.CX P w) k f fd ps sp ∧ Binds K fd ps []
  kp : PySem.W.keepIn K (.ref f) = true
theorem ok_ChkX {f : Addr} {fd : FuncData} (T : Txt K mg) (F : FnP K "check_wires" "check_wires" sChk f fd) (GWires : Pr P w K mg base 1 (He5.wf K (cS K) "property" "wires") ["self"] (spWires K)) (GW : Pr P w K mg base 1 (fW K) ["self", "value"] (spWInit K)) : PrX P w K mg base 3 f ["one", "other"] (spChkX K) := by
  obtain ⟨fdW, FW, bW⟩ := GW.ex
  refine ⟨⟨_, F.ok (CX := L2.CX P w) scChk (fun vs H Q E h => ?_) (fun cdv A outer s H vs Q E hr h => ⟨_, pss_one (ps_if (pt_cmpR op_ne (ppr (pv 0) T.cls T.pWires GWires (hr.mono (by decide))) (ppr (pv 1) T.cls T.pWires GWires (hr.mono (by decide))) (nomark _))
    (pss_one (ps_raise rfl (takes_of rfl rfl rfl rfl) (pmk_oex T.ox.ox T.oxI T.oxT FW (hr.mono (by decide)) bW .nil pass0 rfl T.gO (pa_cons (pv 1) pa_nil)))) pss_nil), ?_⟩), F.bindsN fun _ _ _ _ _ _ us hl => match us, hl with | [_, _], _ => rfl⟩, F.kp⟩
  · obtain ⟨a, b, ms, os, rfl, _⟩ := h
    rfl
  · obtain ⟨a, b, ms, os, rfl, ha, hb, hl, he⟩ := h
    obtain ⟨dx, t, ea, _⟩ := id ha
    obtain ⟨dy, u, eb, _⟩ := id hb
    refine ⟨_, rfl, a, dx, _, rfl, ea, a, ms, rfl, ha, _, rfl, b, dy, _, rfl, eb, b, os, rfl, hb, rfl, _, rfl, ifT ?_ ⟨_, rfl, by show 1 ≤ 1000; decide, fun e ne => ?_⟩⟩
    · rw [Bool.not_eq_true']
      exact decide_eq_false fun z => hl (by have z2 := V.int.inj z; omega)
    · refine ⟨e, cO K, .ref b, rfl, T.ox.ox, T.ox.nv, upd_same, fun d H' nd h1 h2 kp => ⟨rfl, d, _, h1, h2, ?_, he d _ (fun c o ec => ?_) upd_same⟩⟩
      · cases z : H d with
        | none => rfl
        | some o =>
          rw [upd_ne (ne_of_none z ne), z] at nd
          cases nd
      · have nce : c ≠ e := ne_of_none ec ne
        have ncd : c ≠ d := fun z => by
          rw [← z, upd_ne nce, ec] at nd
          cases nd
        rw [upd_ne ncd, del_ne nce]
        exact kp c o (by rw [upd_ne nce]; exact ec) nce
theorem ok_WithinX {f : Addr} {fd : FuncData} (T : Txt K mg) (F : FnP K "within" "Standing.within" sWithin f fd) (GC : PrX P w K mg base 3 (ga K "check_wires") ["one", "other"] (spChkX K)) : PrX P w K mg base 4 f ["self", "other"] (spChkX K) := by
  obtain ⟨fdC, FC, bC⟩ := GC.ex
  refine ⟨⟨_, F.ok (CX := L2.CX P w) scWithin (fun vs H Q E h => ?_) (fun cdv A outer s H vs Q E hr h => ⟨_, pss_cons (ps_expr (pe_call (E := E) FC (hr.mono (by decide)) rfl (T.gl "check_wires" (by decide +kernel)) GC.kp bC .nil (passes_call (takes_of rfl rfl rfl rfl) fun _ _ _ _ z => z) (pa_cons (pv 0) (pa_cons (pv 1) pa_nil)))) (pss_one ps_never), ?_⟩),
    F.bindsN fun _ _ _ _ _ _ us hl => match us, hl with | [_, _], _ => rfl⟩, F.kp⟩
  · obtain ⟨a, b, ms, os, rfl, _⟩ := h
    rfl
  · obtain ⟨a, b, ms, os, rfl, ha, hb, hl, he⟩ := h
    exact ⟨_, rfl, _, rfl, a, b, ms, os, rfl, ha, hb, hl, he⟩
theorem ok_OrX {f : Addr} {fd : FuncData} (T : Txt K mg) (F : FnP K "__or__" "Standing.__or__" sOr f fd) (GC : PrX P w K mg base 3 (ga K "check_wires") ["one", "other"] (spChkX K)) : PrX P w K mg base 4 f ["self", "other"] (spChkX K) := by
  obtain ⟨fdC, FC, bC⟩ := GC.ex
  refine ⟨⟨_, F.ok (CX := L2.CX P w) scOr (fun vs H Q E h => ?_) (fun cdv A outer s H vs Q E hr h => ⟨_, pss_cons (ps_expr (pe_call (E := E) FC (hr.mono (by decide)) rfl (T.gl "check_wires" (by decide +kernel)) GC.kp bC .nil (passes_call (takes_of rfl rfl rfl rfl) fun _ _ _ _ z => z) (pa_cons (pv 0) (pa_cons (pv 1) pa_nil)))) (pss_cons ps_never (pss_cons ps_never (pss_one ps_never))), ?_⟩),
    F.bindsN fun _ _ _ _ _ _ us hl => match us, hl with | [_, _], _ => rfl⟩, F.kp⟩
  · obtain ⟨a, b, ms, os, rfl, _⟩ := h
    rfl
  · obtain ⟨a, b, ms, os, rfl, ha, hb, hl, he⟩ := h
    exact ⟨_, rfl, _, rfl, a, b, ms, os, rfl, ha, hb, hl, he⟩
theorem ok_AndX {f : Addr} {fd : FuncData} (T : Txt K mg) (F : FnP K "__and__" "Standing.__and__" sAnd f fd) (GC : PrX P w K mg base 3 (ga K "check_wires") ["one", "other"] (spChkX K)) : PrX P w K mg base 4 f ["self", "other"] (spChkX K) := by
  obtain ⟨fdC, FC, bC⟩ := GC.ex
  refine ⟨⟨_, F.ok (CX := L2.CX P w) scAnd (fun vs H Q E h => ?_) (fun cdv A outer s H vs Q E hr h => ⟨_, pss_cons (ps_expr (pe_call (E := E) FC (hr.mono (by decide)) rfl (T.gl "check_wires" (by decide +kernel)) GC.kp bC .nil (passes_call (takes_of rfl rfl rfl rfl) fun _ _ _ _ z => z) (pa_cons (pv 0) (pa_cons (pv 1) pa_nil)))) (pss_cons ps_never (pss_one ps_never)), ?_⟩),
    F.bindsN fun _ _ _ _ _ _ us hl => match us, hl with | [_, _], _ => rfl⟩, F.kp⟩
  · obtain ⟨a, b, ms, os, rfl, _⟩ := h
    rfl
  · obtain ⟨a, b, ms, os, rfl, ha, hb, hl, he⟩ := h
    exact ⟨_, rfl, _, rfl, a, b, ms, os, rfl, ha, hb, hl, he⟩
/-! ### told -/
/-- what told makes of an error cls with the dict d, of a value -/
def ToldE (K : PySem.W.Frag) (CW : Addr) (Q : VK) : XK := fun cls d H' => PySem.W.exmOne K cls (.ref CW) = some true ∧ ∀ a p : Addr, H' a = none → upd H' a (exv a cls d) p = none → Q (.ref p) (upd (upd H' a (exv a cls d)) p (.tup [.ref a, .non]))
def ToldV (Q : VK) : VK := fun v H' => ∀ p, H' p = none → Q (.ref p) (upd H' p (.tup [.non, v]))
def TTold (K : PySem.W.Frag) (CW : Addr) : (XK → Hp → VK → Prop) → Hp → VK → Prop := fun tl H Q => ∀ (H1 : Hp) (E : XK) (Kc : VK), Same H H1 → (∀ cls d H', ToldE K CW Q cls d H' → E cls d H') → (∀ v H', ToldV Q v H' → Kc v H') → tl E H1 Kc
theorem told_ok {X : Cx} {g : Addr} (hW : X.mg "WireError" = some (.ref (ga X.K "WireError"))) (cdg : Value) : Calls2 X nTold "_law_told" (defScope sTold) g cdg (defBody sTold) "_law_look" (TTold X.K (ga X.K "WireError")) := by
  intro f s H Q tl act h
  have big := big_line
  refine ⟨_, pss_cons (ps_asg (pe_tup (pa_cons pe_non (pa_cons pe_non pa_nil))) (tupG X.K 2 (pgs_cons (pg_name (i := 1) scTold.nd rfl (Or.inl rfl)) (pgs_cons (pg_name (i := 2) scTold.nd rfl (Or.inl rfl)) pgs_nil)))) (pss_cons
    (ps_try_held (X := (cxOf CX0 X.prog X.w X.K X.mg X.base nTold "_law_told" (defScope sTold) g cdg X.A X.stack s H E0).nox) (c := .ref (ga X.K "WireError")) (i := 3) (Wout := fun _ _ _ _ => False)
      (tb := fun W => tAsg (fun σZ HZ Q => σZ[0]? = some (some (.ref f)) ∧ Same H HZ ∧ ∃ E, (∀ cls d H', E cls d H' → W cls d σZ H') ∧ tl E HZ Q) (gName 2))
      rfl rfl rfl scTold.nd rfl rfl ⟨rfl, by decide, .inl hW⟩ LamX.takes0 (fun W pn xe tk _ => pss_one (ps_set (i := 2) scTold.nd rfl (Or.inl rfl) (act W pn xe _ _ tk))) (fun a oe cls d pn _ _ => pss_one (ps_set (i := 1) scTold.nd rfl (Or.inl rfl) (pv 3))))
    (pss_one (ps_ret (pe_tup (pa_cons (pv 1) (pa_cons (pv 2) pa_nil)))))), ?_⟩
  refine ⟨by show 2 ≤ sizeLine; omega, fun t0 n0 => ⟨t0, _, rfl, SqT.of upd_same, rfl, _, _, rfl, _, _, rfl, rfl, ?_⟩⟩
  have s0 := same_updN (o := .tup [V.non, V.non]) n0
  refine ⟨rfl, s0, ToldE X.K (ga X.K "WireError") Q, fun cls d H' hE => ⟨true, hE.1, fun _ a na => ⟨_, rfl, fun na2 => ?_⟩, fun z => Bool.noConfusion z⟩, h _ _ _ s0 (fun _ _ _ z => z) fun v H' hv => ⟨_, rfl, _, rfl, by show 2 ≤ sizeLine; omega, fun p np => hv p np⟩⟩
  exact ⟨_, rfl, _, rfl, by show 2 ≤ sizeLine; omega, fun p np => hE.2 a p na np⟩
end
end K02

set_option Elab.async false
set_option linter.all false
set_option maxRecDepth 100000
set_option maxHeartbeats 4000000
namespace K02
open PySem PySem.Spec PyProof.Rows L2 Lw
abbrev sPair : Stmt := top 26
abbrev nPair : List Str := ["_law_mine", "_law_its", "_law_one", "_law_other", "_law_both", "_law_common"]
theorem scPair : FnScope nPair ["_law_mine", "_law_its"] (defScope sPair) := ⟨rfl, rfl, rfl, by decide +kernel, rfl, by decide +kernel, by decide +kernel⟩
/-! ### readings that leave all as it was -/
def PureB (te : TE) (σ : L2.St) (H0 : Hp) (v : Bool) : Prop := ∀ (H : Hp) (Q : VK), Same H0 H → (∀ H', Same H H' → Q (.bl v) H') → te σ H Q
def PureT (tt : TT) (σ : L2.St) (H0 : Hp) (v : Bool) : Prop := ∀ (H : Hp) (Q : Bool → Hp → Prop), Same H0 H → (∀ H', Same H H' → Q v H') → tt σ H Q
def PureS (K : PySem.W.Frag) (te : TE) (σ : L2.St) (H0 : Hp) (ms : List Nat) : Prop := ∀ (H : Hp) (Q : VK), Same H0 H → (∀ x H', Same H H' → StAt K H' x ms → Q (.ref x) H') → te σ H Q
section
variable {K : PySem.W.Frag} {σ : L2.St} {H0 : Hp} {v1 v2 : Bool} {ta tb : TE} {t1 t2 : TT} {ms os : List Nat}
theorem pB_and (a : PureB ta σ H0 v1) (b : PureB tb σ H0 v2) : PureB (tAndV ta tb) σ H0 (v1 && v2) := fun H Q s k => a H _ s fun H' s' => ⟨v1, rfl, by
  cases v1 with
  | true => exact iteT (b H' Q (s.trans s') fun H'' s'' => k H'' (s'.trans s''))
  | false => exact iteF (k H' s')⟩
theorem pB_ne (a : PureB ta σ H0 v1) (b : PureB tb σ H0 v2) : PureB (tOp rNe ta tb) σ H0 (v1 != v2) := fun H Q s k => a H _ s fun H' s' => b H' _ (s.trans s') fun H'' s'' => ⟨rfl, by
  have e : (!decide (V.bl v1 = V.bl v2)) = (v1 != v2) := by cases v1 <;> cases v2 <;> rfl
  rw [e]
  exact k H'' (s'.trans s'')⟩
theorem pT_test (a : PureB ta σ H0 v1) : PureT (tTest ta) σ H0 v1 := fun H Q s k => a H _ s fun H' s' => ⟨v1, rfl, k H' s'⟩
theorem pT_or (a : PureT t1 σ H0 v1) (b : PureT t2 σ H0 v2) : PureT (tOr t1 t2) σ H0 (v1 || v2) := fun H Q s k => a H _ s fun H' s' => by
  cases v1 with
  | true => exact iteT (k H' s')
  | false => exact iteF (b H' Q (s.trans s') fun H'' s'' => k H'' (s'.trans s''))
theorem pT_and (a : PureT t1 σ H0 v1) (b : PureT t2 σ H0 v2) : PureT (tAnd t1 t2) σ H0 (v1 && v2) := fun H Q s k => a H _ s fun H' s' => by
  cases v1 with
  | true => exact iteT (b H' Q (s.trans s') fun H'' s'' => k H'' (s'.trans s''))
  | false => exact iteF (k H' s')
theorem pT_not (a : PureT t1 σ H0 v1) : PureT (tNot t1) σ H0 (!v1) := fun H Q s k => a H _ s fun H' s' => k H' s'
theorem pS_var {i : Nat} {a : Addr} (h : σ[i]? = some (some (.ref a))) (st : StAt K H0 a ms) : PureS K (tVar i) σ H0 ms := fun H Q s k => ⟨_, h, k a H (Same.refl _) (st.same s)⟩
theorem pS_ix {i : Nat} {l : Addr} {xs : List V} {j : Int} {a : Addr} (h : σ[i]? = some (some (.ref l))) (hl : SqL K H0 l xs) (hj : atI xs j = some (.ref a)) (st : StAt K H0 a ms) : PureS K (tOp (rIxL K) (tVar i) (tC (.int j))) σ H0 ms :=
  fun H Q s k => ⟨_, h, l, xs, j, _, rfl, rfl, s.seq hl, hj, k a H (Same.refl _) (st.same s)⟩
theorem pS_or (T : PySem.W.notFirst K (cS K) (.ref (cS K)) = true) (a : PureS K ta σ H0 ms) (b : PureS K tb σ H0 os) (c : Canon ms) (d : Canon os) (hl : ms.length = os.length) : PureS K (tOp (rOwnB (cS K) (spOr K) E0) ta tb) σ H0 (orM ms os) := fun H Q s k =>
  a H _ s fun x H1 s1 hx => b H1 _ (s.trans s1) fun y H2 s2 hy => by
    obtain ⟨dx, t, ex, _⟩ := hx.same s2
    obtain ⟨dy, u, ey, _⟩ := id hy
    exact ⟨x, dx, y, dy, _, _, rfl, rfl, ex, ey, x, y, ms, os, rfl, hx.same s2, hy, c, d, hl, fun z H' s' _ hz => k z H' (s1.trans (s2.trans s')) hz⟩
theorem pS_and (T : PySem.W.notFirst K (cS K) (.ref (cS K)) = true) (a : PureS K ta σ H0 ms) (b : PureS K tb σ H0 os) (c : Canon ms) (d : Canon os) (hl : ms.length = os.length) : PureS K (tOp (rOwnB (cS K) (spAnd K) E0) ta tb) σ H0 (andM ms os) := fun H Q s k =>
  a H _ s fun x H1 s1 hx => b H1 _ (s.trans s1) fun y H2 s2 hy => by
    obtain ⟨dx, t, ex, _⟩ := hx.same s2
    obtain ⟨dy, u, ey, _⟩ := id hy
    exact ⟨x, dx, y, dy, _, _, rfl, rfl, ex, ey, x, y, ms, os, rfl, hx.same s2, hy, c, d, hl, fun z H' s' _ hz => k z H' (s1.trans (s2.trans s')) hz⟩
variable {mg : Str → Option Value}
theorem st_ty (T : Txt K mg) {H : Hp} {a : Addr} (h : StAt K H a ms) : TyX K H (.ref a) (.ref (cS K)) := by
  obtain ⟨dx, t, e, _⟩ := h
  exact .base (.ins e T.cls T.ca T.cg T.ct T.obj)
theorem pB_eq (T : Txt K mg) (a : PureS K ta σ H0 ms) (b : PureS K tb σ H0 os) : PureB (tOp (rOwnEq K (cS K) (spEq K) E0) ta tb) σ H0 (decide (ms = os)) := fun H Q s k =>
  a H _ s fun x H1 s1 hx => b H1 _ (s.trans s1) fun y H2 s2 hy => by
    obtain ⟨dx, t, ex, _⟩ := hx.same s2
    exact ⟨x, dx, _, _, rfl, ex, st_ty T hy, T.nfst, x, y, ms, os, rfl, hx.same s2, hy, k H2 (s1.trans s2)⟩
theorem pB_neS (T : Txt K mg) (a : PureS K ta σ H0 ms) (b : PureS K tb σ H0 os) : PureB (tOp (rOwnNe K (cS K) (spEq K) E0) ta tb) σ H0 (!decide (ms = os)) := fun H Q s k =>
  a H _ s fun x H1 s1 hx => b H1 _ (s.trans s1) fun y H2 s2 hy => by
    obtain ⟨dx, t, ex, _⟩ := hx.same s2
    exact ⟨x, dx, _, _, rfl, ex, st_ty T hy, T.nfst, x, y, ms, os, rfl, hx.same s2, hy, _, rfl, k H2 (s1.trans s2)⟩
theorem pB_within (a : PureS K ta σ H0 ms) (b : PureS K tb σ H0 os) (c : Canon ms) (hl : ms.length = os.length) : PureB (tMeth (cS K) "within" (spWithin K) [] E0 ta (tCons tb tNil)) σ H0 (withinB ms os) := fun H Q s k =>
  a H _ s fun x H1 s1 hx => by
    obtain ⟨dx, t, ex, _⟩ := id hx
    exact ⟨x, dx, _, rfl, ex, rfl, b H1 _ (s.trans s1) fun y H2 s2 hy => ⟨x, y, ms, os, rfl, hx.same s2, hy, c, hl, fun H' s' => k H' (s1.trans (s2.trans s'))⟩⟩
end
theorem if_no {tt : TT} {t u : TS} {D : Ends} {σ : L2.St} {H0 H : Hp} (h : PureT tt σ H0 false) (s : Same H0 H) (k : ∀ H', Same H0 H' → u D σ H') : tIfS tt t u D σ H := h H _ s fun H' s' => iteF (k H' (s.trans s'))
theorem Txt.orAt {K : PySem.W.Frag} {mg : Str → Option Value} (T : Txt K mg) : PySem.W.findIn K (.ref (cS K)) (PySem.dunder Operator.BitOr.info.2) = some (some (.ref (ma K (cS K) "__or__"))) := by
  have e : PySem.dunder Operator.BitOr.info.2 = ("__or__" : Str) := by decide +kernel
  rw [e]
  exact T.at_ _ (by decide +kernel)
theorem Txt.andAt {K : PySem.W.Frag} {mg : Str → Option Value} (T : Txt K mg) : PySem.W.findIn K (.ref (cS K)) (PySem.dunder Operator.BitAnd.info.2) = some (some (.ref (ma K (cS K) "__and__"))) := by
  have e : PySem.dunder Operator.BitAnd.info.2 = ("__and__" : Str) := by decide +kernel
  rw [e]
  exact T.at_ _ (by decide +kernel)
section
variable {K : PySem.W.Frag}
theorem stAt_keep {H H' : Hp} {q a : Addr} {xs : List V} {ms : List Nat} (h : H q = some (.lst xs)) (k : Keep q H H') (s : StAt K H a ms) : StAt K H' a ms := by
  obtain ⟨dx, t, e, r⟩ := s
  exact ⟨dx, t, k _ _ (fun z => by rw [z, h] at e; cases e) e, sqT_keep h k r⟩
theorem pT_b {σ : L2.St} {H0 : Hp} {v1 : Bool} {ta : TE} (a : PureB ta σ H0 v1) : PureT (tB ta) σ H0 v1 := fun H Q s k => a H _ s fun H' s' => ⟨v1, rfl, k H' s'⟩
theorem mk_go {H1 : Hp} {R : Hp → Prop} {t x dx : Addr} {ms : List Nat} (hs : SqT K H1 t (mv ms)) (c : Canon ms) (nx : H1 x = none) (ndx : H1 dx = none) (q : ∀ H' : Hp, Same H1 H' → StAt K H' x ms → R H') :
    spInit K (.ref x :: ([.ref t] ++ [])) (upd (upd H1 dx (.own x)) x (.ins (cS K) dx [])) (fun v H2 => v = .non ∧ R H2) E0 := by
  have k0 : Same H1 (L2.upd (L2.upd H1 dx (.own x)) x (.ins (cS K) dx [])) := fun b o e => by
    rw [upd_ne (ne_of_none e nx), upd_ne (ne_of_none e ndx)]
    exact e
  refine ⟨x, dx, t, ms, rfl, upd_same, sqT_same k0 hs, c, fun H' k1 k2 => ⟨rfl, ?_⟩⟩
  have k3 : Same H1 H' := fun b o e => k1 _ _ (ne_of_none e nx) (k0 _ _ e)
  exact q H' k3 ⟨dx, t, k2, sqT_same k3 hs⟩
end
/-! ### shown -/
theorem mv_small {ms : List Nat} (c : Canon ms) : ∀ m ∈ ms, m < 6 := fun m hm => by
  obtain ⟨i, hi, e⟩ := mem_gd hm
  have h1 := c.le i hi
  have h2 := c.hi
  omega
theorem cost_mv : ∀ ms : List Nat, (∀ m ∈ ms, m < 6) → costAll (ms.map fun n : Nat => PyData.int n) ≤ 12 * ms.length ∧ PyData.showableAll (ms.map fun n : Nat => PyData.int n) = true
  | [], _ => ⟨Nat.le_refl 0, by simp [PyData.showableAll]⟩
  | m :: ms, h => by
    obtain ⟨i1, i2⟩ := cost_mv ms fun z hz => h z (List.mem_cons_of_mem _ hz)
    have hm := h m List.mem_cons_self
    have l1 : (toString (m : Int)).length ≤ 10 := int_text_length_le10 (by decide) (by omega : ((m : Int)).natAbs < 10 ^ 9)
    have p1 : ((m : Int)).natAbs.log2 < 1920 := log_small (Nat.lt_of_lt_of_le (by omega : ((m : Int)).natAbs < 10 ^ 9) (by decide +kernel))
    refine ⟨?_, ?_⟩
    · rw [List.map_cons, costAll, cost, List.length_cons]
      omega
    · rw [List.map_cons, PyData.showableAll, PyData.showable, i2, Bool.and_true]
      exact decide_eq_true p1
theorem shows_mv {ms : List Nat} (c : Canon ms) : ∃ x, Shows (.tuple (ms.map fun n : Nat => PyData.int n)) x := by
  obtain ⟨h1, h2⟩ := cost_mv ms (mv_small c)
  have c6 := c.hi
  refine ⟨_, shows_of 100 ?_ ?_ ?_⟩
  · rw [PyData.showable]
    exact h2
  · rw [cost]
    omega
  · simp only [PyData.depth]
    rw [depth_mv]
    decide
theorem shows_bool (b : Bool) : ∃ x, Shows (.bool b) x := ⟨_, shows_of 100 rfl (by cases b <;> decide) (by cases b <;> decide)⟩
def PureD (K : PySem.W.Frag) (te : TE) (σ : L2.St) (H0 : Hp) (d : PyData) : Prop := ∀ (H : Hp) (Q : VK), Same H0 H → (∀ v H', Same H H' → Dp K H' v d → Q v H') → te σ H Q
section
variable {K : PySem.W.Frag} {σ : L2.St} {H0 : Hp} {ta tb : TE} {ms os : List Nat} {v1 : Bool} {mg : Str → Option Value}
theorem pB_reprNe {d : PyData} {x : Str} (a : PureD K ta σ H0 d) (b : PureD K tb σ H0 d) (hx : Shows d x) : PureB (tOp rNe (tCB (rRepr K) (tCons ta tNil)) (tCB (rRepr K) (tCons tb tNil))) σ H0 false := fun H Q s k => a H _ s fun v H1 s1 hv =>
  ⟨v, d, x, rfl, .dp hv, hx, b H1 _ (s.trans s1) fun v2 H2 s2 hv2 => ⟨v2, d, x, rfl, .dp hv2, hx, rfl, by
    have e : (!decide (V.str x = V.str x)) = false := by simp
    rw [e]
    exact k H2 (s1.trans s2)⟩⟩
theorem pD_bool (a : PureB ta σ H0 v1) : PureD K ta σ H0 (.bool v1) := fun H Q s k => a H _ s fun H' s' => k _ H' s' (.bl v1)
theorem pD_marks (T : Txt K mg) (a : PureS K ta σ H0 ms) : PureD K (tProp (cS K) (spMarks K) [] E0 ta) σ H0 (.tuple (ms.map fun n : Nat => PyData.int n)) := fun H Q s k => a H _ s fun x H1 s1 hx => by
  obtain ⟨dx, t, ex, ht⟩ := hx
  exact ⟨x, dx, _, rfl, ex, x, dx, t, rfl, ex, k _ H1 s1 (.tup ht (dp_mv ms))⟩
theorem pD_var {i : Nat} {t : Addr} (h : σ[i]? = some (some (.ref t))) (ht : SqT K H0 t (mv ms)) : PureD K (tVar i) σ H0 (.tuple (ms.map fun n : Nat => PyData.int n)) := fun H Q s k => ⟨_, h, k _ H (Same.refl _) (.tup (sqT_same s ht) (dp_mv ms))⟩
theorem pD_joined {i j : Nat} {t u : Addr} (hi : σ[i]? = some (some (.ref t))) (hj : σ[j]? = some (some (.ref u))) (ht : SqT K H0 t (mv ms)) (hu : SqT K H0 u (mv os)) (c : Canon ms) (d : Canon os) (hl : ms.length = os.length) :
    PureD K (tCall (spJoined K) [] E0 (tCons (tVar i) (tCons (tVar j) tNil))) σ H0 (.tuple ((orM ms os).map fun n : Nat => PyData.int n)) := fun H Q s k => ⟨_, hi, _, hj, t, u, ms, os, rfl, sqT_same s ht, sqT_same s hu, c, d, hl, fun p H' s' hp => k _ H' s' (.tup hp (dp_mv _))⟩
theorem pD_common {i j : Nat} {t u : Addr} (hi : σ[i]? = some (some (.ref t))) (hj : σ[j]? = some (some (.ref u))) (ht : SqT K H0 t (mv ms)) (hu : SqT K H0 u (mv os)) (c : Canon ms) (hl : ms.length = os.length) :
    PureD K (tCall (spCommon K) [] E0 (tCons (tVar i) (tCons (tVar j) tNil))) σ H0 (.tuple ((andM ms os).map fun n : Nat => PyData.int n)) := fun H Q s k => ⟨_, hi, _, hj, t, u, ms, os, rfl, sqT_same s ht, sqT_same s hu, c, hl, fun p H' s' hp => k _ H' s' (.tup hp (dp_mv _))⟩
theorem pB_lie {i j : Nat} {t u : Addr} (hi : σ[i]? = some (some (.ref t))) (hj : σ[j]? = some (some (.ref u))) (ht : SqT K H0 t (mv ms)) (hu : SqT K H0 u (mv os)) (c : Canon ms) (hl : ms.length = os.length) :
    PureB (tCall (spLieW K) [] E0 (tCons (tVar i) (tCons (tVar j) tNil))) σ H0 (withinB ms os) := fun H Q s k => ⟨_, hi, _, hj, t, u, ms, os, rfl, sqT_same s ht, sqT_same s hu, c, hl, fun H' s' => k H' s'⟩
theorem pB_eqD (a : PureD K ta σ H0 (.tuple (ms.map fun n : Nat => PyData.int n))) (b : PureD K tb σ H0 (.tuple (os.map fun n : Nat => PyData.int n))) : PureB (tOp (rEqD K) ta tb) σ H0 (decide (ms = os)) := fun H Q s k => a H _ s fun v H1 s1 hv => b H1 _ (s.trans s1) fun v2 H2 s2 hv2 =>
  ⟨_, _, dp_same s2 _ _ hv, hv2, shaped_mv ms, shaped_mv os, by rw [eqv_mv]; exact k H2 (s1.trans s2)⟩
/-- Standing(t), the marks in a slot -/
theorem pS_mk {i : Nat} {t : Addr} (hi : σ[i]? = some (some (.ref t))) (ht : SqT K H0 t (mv ms)) (c : Canon ms) : PureS K (tMake (cS K) (spInit K) [] E0 (tCons (tVar i) tNil)) σ H0 ms := fun H Q s k => ⟨_, hi, mk_fin (t := t) (ms := ms) (sqT_same s ht) c fun x H' s' _ hx => k x H' s' hx⟩
end
end K02

set_option Elab.async false
set_option linter.all false
set_option maxRecDepth 100000
set_option maxHeartbeats 4000000
namespace K02
open PySem PySem.Spec PyProof.Rows L2 Lw
theorem par_reads {i j : Nat} {ta tb : TE} {D : Ends} {σ : L2.St} {H : Hp} (h : ta σ H fun x H1 => tb σ H1 fun y H2 => ∃ v w, [x, y] = [v, w] ∧ D.nx ((σ.set i (some v)).set j (some w)) H2) : tPar i j (tCons ta (tCons tb tNil)) D σ H := h
theorem or_comm {a b : List Nat} (c : Canon a) (d : Canon b) (hl : a.length = b.length) : orM b a = orM a b := by
  have l1 := or_len c d hl
  have l2 := or_len d c hl.symm
  refine le_antisymm (or_canon d c hl.symm) (or_canon c d hl) (by omega) ?_ ?_
  · exact or_least d c hl.symm (by omega) (or_right c d hl) (or_left c d hl)
  · exact or_least c d hl (by omega) (or_right d c hl.symm) (or_left d c hl.symm)
theorem and_comm2 {a b : List Nat} (c : Canon a) (d : Canon b) (hl : a.length = b.length) : andM b a = andM a b := by
  have l1 := and_len (ms := a) (os := b) hl
  have l2 := and_len (ms := b) (os := a) hl.symm
  have k1 := and_canon (os := b) c hl
  have k2 := and_canon (os := a) d hl.symm
  refine le_antisymm k2 k1 (by omega) ?_ ?_
  · exact and_most hl k2 (by omega) (and_right d hl.symm) (and_left d hl.symm)
  · exact and_most hl.symm k1 (by omega) (and_right c hl) (and_left c hl)
section
variable {P : Program} {w : World} {K : PySem.W.Frag} {mg : Str → Option Value} {base : Heap}
def spPair (K : PySem.W.Frag) : Sp := fun vs H Q _ => ∃ (t u : Addr) (ms os : List Nat), vs = [.ref t, .ref u] ∧ SqT K H t (mv ms) ∧ SqT K H u (mv os) ∧ Canon ms ∧ Canon os ∧ ms.length = os.length ∧ ∀ H', Same H H' → Q (.bl true) H'
theorem ok_Pair {f : Addr} {fd : FuncData} (T : Txt K mg) (F : FnP K "_law_is_pair_right" "_law_is_pair_right" sPair f fd) (GInit : Pr P w K mg base 3 (ma K (cS K) "__init__") ["self", "marks"] (spInit K)) (GMarks : Pr P w K mg base 1 (He5.wf K (cS K) "property" "marks") ["self"] (spMarks K))
    (GOr : Pr P w K mg base 5 (ma K (cS K) "__or__") ["self", "other"] (spOr K)) (GAnd : Pr P w K mg base 5 (ma K (cS K) "__and__") ["self", "other"] (spAnd K)) (GEq : Pr P w K mg base 1 (ma K (cS K) "__eq__") ["self", "other"] (spEq K)) (GWithin : Pr P w K mg base 4 (ma K (cS K) "within") ["self", "other"] (spWithin K))
    (GJoined : Pr P w K mg base 2 (ga K "_law_joined_marks") ["_law_one", "_law_other"] (spJoined K)) (GCommon : Pr P w K mg base 1 (ga K "_law_common_marks") ["_law_one", "_law_other"] (spCommon K)) (GLieW : Pr P w K mg base 1 (ga K "_law_lie_within") ["_law_one", "_law_other"] (spLieW K)) :
    FnG P w K mg base CX0 7 f fd ["_law_mine", "_law_its"] (spPair K) := by
  refine okG F scPair (fun vs H Q E h => ?_) (fun cdv A outer s H vs Q E hg hr h => ?_)
  · obtain ⟨t, u, ms, os, rfl, _⟩ := h
    rfl
  · obtain ⟨t, u, ms, os, rfl, ht, hu, c, d, hl, kk⟩ := h
    have un := hr.un
    have hrep : CallR (cxOf CX0 P w K mg base nPair "_law_is_pair_right" (defScope sPair) f cdv A outer s H E).nox (.builtin "repr") (rRepr K) := call_repr hg (by show (A.deeper _).units + 61 < cLine; omega)
    refine ⟨_, PSs.nox (pss_cons (ps_par (i := 2) (j := 3) (by rfl) scPair.nd rfl rfl (by decide) rfl rfl (pa_cons (pmk T.mkr GInit (hr.mono (by decide)) rfl T.gS (pa_cons (pv 0) pa_nil)) (pa_cons (pmk T.mkr GInit (hr.mono (by decide)) rfl T.gS (pa_cons (pv 1) pa_nil)) pa_nil)) (by rfl)) (pss_cons (ps_par (i := 4) (j := 5) (by rfl) scPair.nd rfl rfl (by decide) rfl rfl (pa_cons (pe_op (opB (op := .BitOr) T.orAt (T.fn "__or__" (by decide +kernel)) T.sf GOr (hr.mono (by decide))) (pv 2) (pv 3)) (pa_cons (pe_op (opB (op := .BitAnd) T.andAt (T.fn "__and__" (by decide +kernel)) T.sf GAnd (hr.mono (by decide))) (pv 2) (pv 3)) pa_nil)) (by rfl)) (pss_cons (ps_if (pt_cmpR op_ne (pe_callB hrep rfl (T.free _ (by decide +kernel)) (by decide +kernel) (pa_cons (ppr (pv 4) T.cls T.pMarks GMarks (hr.mono (by decide))) pa_nil)) (pe_callB hrep rfl (T.free _ (by decide +kernel)) (by decide +kernel) (pa_cons (pcl GJoined (hr.mono (by decide)) rfl (T.gl "_law_joined_marks" (by decide +kernel)) (pa_cons (pv 0) (pa_cons (pv 1) pa_nil))) pa_nil)) (nomark _)) (pss_one (ps_ret pe_bl)) pss_nil) (pss_cons (ps_if (pt_cmpR op_ne (pe_callB hrep rfl (T.free _ (by decide +kernel)) (by decide +kernel) (pa_cons (ppr (pv 5) T.cls T.pMarks GMarks (hr.mono (by decide))) pa_nil)) (pe_callB hrep rfl (T.free _ (by decide +kernel)) (by decide +kernel) (pa_cons (pcl GCommon (hr.mono (by decide)) rfl (T.gl "_law_common_marks" (by decide +kernel)) (pa_cons (pv 0) (pa_cons (pv 1) pa_nil))) pa_nil)) (nomark _)) (pss_one (ps_ret pe_bl)) pss_nil) (pss_cons (ps_if (pt_cmpR op_ne (pe_callB hrep rfl (T.free _ (by decide +kernel)) (by decide +kernel) (pa_cons (pmt (pv 2) T.cls (T.at_ "within" (by decide +kernel)) (T.fn "within" (by decide +kernel)) GWithin (hr.mono (by decide)) (pa_cons (pv 3) pa_nil)) pa_nil)) (pe_callB hrep rfl (T.free _ (by decide +kernel)) (by decide +kernel) (pa_cons (pcl GLieW (hr.mono (by decide)) rfl (T.gl "_law_lie_within" (by decide +kernel)) (pa_cons (pv 0) (pa_cons (pv 1) pa_nil))) pa_nil)) (nomark _)) (pss_one (ps_ret pe_bl)) pss_nil) (pss_cons (ps_if (PW.pt (pw_or (pt_not (pt_val (pmt (pv 2) T.cls (T.at_ "within" (by decide +kernel)) (T.fn "within" (by decide +kernel)) GWithin (hr.mono (by decide)) (pa_cons (pv 4) pa_nil)))) (pw_or (pt_not (pt_val (pmt (pv 5) T.cls (T.at_ "within" (by decide +kernel)) (T.fn "within" (by decide +kernel)) GWithin (hr.mono (by decide)) (pa_cons (pv 3) pa_nil)))) (pw_or (pt_cmpR (opNe T.obj T.ne (T.at_ "__eq__" (by decide +kernel)) (T.fn "__eq__" (by decide +kernel)) GEq (hr.mono (by decide))) (pe_op (opB (op := .BitOr) T.orAt (T.fn "__or__" (by decide +kernel)) T.sf GOr (hr.mono (by decide))) (pv 3) (pv 2)) (pv 4) (nomark _)) (pw_or1 (pt_cmpR (opNe T.obj T.ne (T.at_ "__eq__" (by decide +kernel)) (T.fn "__eq__" (by decide +kernel)) GEq (hr.mono (by decide))) (pe_op (opB (op := .BitAnd) T.andAt (T.fn "__and__" (by decide +kernel)) T.sf GAnd (hr.mono (by decide))) (pv 3) (pv 2)) (pv 5) (nomark _))))))) (pss_one (ps_ret pe_bl)) pss_nil) (pss_one (ps_ret (pe_and (pe_cmpR (eqK K (by have := hr.un; show (A.deeper _).units + 64 < cLine; omega)) (ppr (pv 2) T.cls T.pMarks GMarks (hr.mono (by decide))) (pv 0) (nomark _)) (pe_one (pe_cmpR (eqK K (by have := hr.un; show (A.deeper _).units + 64 < cLine; omega)) (ppr (pv 3) T.cls T.pMarks GMarks (hr.mono (by decide))) (pv 1) (nomark _)))))))))))), ?_⟩
    have lo := or_len c d hl
    have la := and_len (ms := ms) (os := os) hl
    have co := or_canon c d hl
    have cn := and_canon (os := os) c hl
    have nf := T.nfst
    refine seq_reads (par_reads ?_)
    refine pS_mk (i := 0) rfl ht c H _ (Same.refl _) fun a H1 s1 ha => ?_
    refine pS_mk (i := 1) rfl (sqT_same s1 hu) d H1 _ (Same.refl _) fun b H2 s2 hb => ?_
    refine ⟨_, _, rfl, ?_⟩
    dsimp only
    have s02 := s1.trans s2
    have ha2 := ha.same s2
    refine seq_reads (pS_or nf (pS_var (i := 2) rfl ha2) (pS_var (i := 3) rfl hb) c d hl H2 _ (Same.refl _) fun x H3 s3 hx => ?_)
    refine pS_and nf (pS_var (i := 2) rfl (ha2.same s3)) (pS_var (i := 3) rfl (hb.same s3)) c d hl H3 _ (Same.refl _) fun y H4 s4 hy => ?_
    refine ⟨_, _, rfl, ?_⟩
    dsimp only
    have s24 := s3.trans s4
    have s04 := s02.trans s24
    generalize hσ : ((((L2.start nPair [V.ref t, V.ref u]).set 2 (some (V.ref a))).set 3 (some (V.ref b))).set 4 (some (V.ref x))).set 5 (some (V.ref y)) = σ
    have v2 : PureS K (tVar 2) σ H4 ms := pS_var (by rw [← hσ]; rfl) (ha2.same s24)
    have v3 : PureS K (tVar 3) σ H4 os := pS_var (by rw [← hσ]; rfl) (hb.same s24)
    have v4 : PureS K (tVar 4) σ H4 (orM ms os) := pS_var (by rw [← hσ]; rfl) (hx.same s4)
    have v5 : PureS K (tVar 5) σ H4 (andM ms os) := pS_var (by rw [← hσ]; rfl) hy
    have e0 : σ[0]? = some (some (.ref t)) := by rw [← hσ]; rfl
    have e1 : σ[1]? = some (some (.ref u)) := by rw [← hσ]; rfl
    have ht4 := sqT_same s04 ht
    have hu4 := sqT_same s04 hu
    obtain ⟨xo, hxo⟩ := shows_mv co
    obtain ⟨xa, hxa⟩ := shows_mv cn
    obtain ⟨xb, hxb⟩ := shows_bool (withinB ms os)
    refine if_no (pT_test (v1 := false) (pB_reprNe (pD_marks T v4) (pD_joined e0 e1 ht4 hu4 c d hl) hxo)) (Same.refl H4) fun H5 s5 => ?_
    dsimp only [tNext]
    refine if_no (pT_test (v1 := false) (pB_reprNe (pD_marks T v5) (pD_common e0 e1 ht4 hu4 c hl) hxa)) s5 fun H6 s6 => ?_
    dsimp only [tNext]
    refine if_no (pT_test (v1 := false) (pB_reprNe (pD_bool (pB_within v2 v3 c hl)) (pD_bool (pB_lie e0 e1 ht4 hu4 c hl)) hxb)) s6 fun H7 s7 => ?_
    dsimp only [tNext]
    refine if_no (pT_or (v1 := false) (v2 := false) (pT_not (v1 := true) (pT_b ?_)) (pT_or (v1 := false) (v2 := false) (pT_not (v1 := true) (pT_b ?_)) (pT_or (v1 := false) (v2 := false) (pT_test ?_) (pT_test ?_)))) s7 fun H8 s8 => ?_
    · have e : withinB ms (orM ms os) = true := within_iff.mpr (or_left c d hl)
      rw [← e]
      exact pB_within v2 v4 c lo.symm
    · have e : withinB (andM ms os) os = true := within_iff.mpr (and_right c hl)
      rw [← e]
      exact pB_within v5 v3 cn (by omega)
    · have e : (!decide (orM os ms = orM ms os)) = false := not_dec (or_comm c d hl)
      rw [← e]
      exact pB_neS T (pS_or nf v3 v2 d c hl.symm) v4
    · have e : (!decide (andM os ms = andM ms os)) = false := not_dec (and_comm2 c d hl)
      rw [← e]
      exact pB_neS T (pS_and nf v3 v2 d c hl.symm) v5
    dsimp only [tNext]
    refine pB_and (v1 := decide (ms = ms)) (v2 := decide (os = os)) (pB_eqD (pD_marks T v2) (pD_var e0 ht4)) (pB_eqD (pD_marks T v3) (pD_var e1 hu4)) H8 _ s8 fun H9 s9 => ?_
    rw [decide_eq_true rfl, decide_eq_true rfl]
    exact kk H9 (s04.trans (s8.trans s9))
end
end K02

set_option Elab.async false
set_option linter.all false
set_option maxRecDepth 100000
set_option maxHeartbeats 4000000
namespace K02
open PySem PySem.Spec PyProof.Rows L2 Lw LamX
abbrev sApart : Stmt := top 27
abbrev nApart : List Str := ["_law_mine", "_law_its", "_law_one", "_law_other", "_law_looks", "_law_look", "_law_caught"]
theorem scApart : FnScope nApart ["_law_mine", "_law_its"] (defScope sApart) := ⟨rfl, rfl, rfl, by decide +kernel, rfl, by decide +kernel, by decide +kernel⟩
def lamE : Expr → LamD
  | .Lambda p b s _ => ⟨p, b, s⟩
  | _ => ⟨{ posonlyargs := [], args := [], vararg := none, kwonlyargs := [], kw_defaults := [], kwarg := none, defaults := [] }, .Constant .none 0 ⟨0, 0, 0, 0⟩, { kind := .function, names := [], isGenerator := false, isCoroutine := false, more := [] }⟩
def lstE : Stmt → Expr
  | .Assign _ (.List (e :: _) _) _ => e
  | .Expr (.Call _ (e :: _) _ _) _ => e
  | _ => .Constant .none 0 ⟨0, 0, 0, 0⟩
def fam (j : Nat) : LamD := lamE (lstE ((defBody sApart).getD (j + 1) (.Pass ⟨0, 0, 0, 0⟩)))
def famT (K : PySem.W.Frag) : Nat → XK → TE
  | 0, E => tOp (rOwnB (cS K) (spChkX K) E) (tVar 2) (tVar 3)
  | 1, E => tOp (rOwnB (cS K) (spChkX K) E) (tVar 2) (tVar 3)
  | _, E => tMeth (cS K) "within" (spChkX K) [] E (tVar 2) (tCons (tVar 3) tNil)
/-- the name of the lambdas' code objects -/
def qA : Str := (envOfC "_law_are_apart_right" (defScope sApart) 0 0 .none).qual ++ "<lambda>"
theorem extN_st {K : PySem.W.Frag} {H H' : Hp} {a : Addr} {ms : List Nat} (h : StAt K H a ms) (e : ExtN H H') : StAt K H' a ms := by
  obtain ⟨dx, t, h1, h2⟩ := h
  refine ⟨dx, t, e _ _ h1 (fun ps z => by cases z), ?_⟩
  rcases h2 with (q | ⟨ob, q⟩) | q
  · exact .inl (.inl (e _ _ q fun ps z => by cases z))
  · exact .inl (.inr ⟨ob, e _ _ q fun ps z => by cases z⟩)
  · exact .inr q
theorem extN_sq {K : PySem.W.Frag} {H H' : Hp} {t : Addr} {xs : List V} (h : SqT K H t xs) (e : ExtN H H') : SqT K H' t xs := by
  rcases h with (q | ⟨ob, q⟩) | q
  · exact .inl (.inl (e _ _ q fun ps z => by cases z))
  · exact .inl (.inr ⟨ob, e _ _ q fun ps z => by cases z⟩)
  · exact .inr q
theorem tup2_reads {ta tb : TE} {g : TG} {D : Ends} {σ : L2.St} {H : Hp} (h : ta σ H fun x H1 => tb σ H1 fun y H2 => [x, y].length ≤ sizeLine ∧ ∀ p, H2 p = none → g (.ref p) σ (upd H2 p (.tup [x, y])) D.nx) : tAsg (tTup (tCons ta (tCons tb tNil))) g D σ H := h
/-- the j-th lambda stands at f -/
def LamAt (X : Cx) (j : Nat) (f : Addr) (H : Hp) : Prop := ∃ c' : Addr, H f = some (LamO X.env.qual X.env.cells (fam j) c' f) ∧ H c' = some (CodeO c' (X.env.qual ++ "<lambda>"))
theorem LamAt.same {X : Cx} {j : Nat} {f : Addr} {H H' : Hp} (h : LamAt X j f H) (s : Same H H') : LamAt X j f H' := by
  obtain ⟨c, h1, h2⟩ := h
  exact ⟨c, s _ _ h1, s _ _ h2⟩
theorem LamAt.ext {X : Cx} {j : Nat} {f : Addr} {H H' : Hp} (h : LamAt X j f H) (s : ExtN H H') : LamAt X j f H' := by
  obtain ⟨c, h1, h2⟩ := h
  exact ⟨c, s _ _ h1 (fun ps z => by unfold LamO at z; cases z), s _ _ h2 codeO_ne⟩
theorem LamAt.keep {X : Cx} {j : Nat} {f l : Addr} {H H' : Hp} {xs : List V} (h : LamAt X j f H) (hl : H l = some (.lst xs)) (k : Keep l H H') : LamAt X j f H' := by
  obtain ⟨c, h1, h2⟩ := h
  refine ⟨c, k _ _ (fun z => ?_) h1, k _ _ (fun z => ?_) h2⟩
  · rw [z, hl] at h1
    unfold LamO at h1
    cases h1
  · rw [z, hl] at h2
    unfold CodeO at h2
    cases h2
theorem tabs_keep {T : List (Addr × Str)} {H H' : Hp} {l : Addr} {xs : List V} (t : Tabs T H) (hl : H l = some (.lst xs)) (k : Keep l H H') : Tabs T H' := fun p hp => by
  obtain ⟨ps, h1, h2, h3⟩ := t p hp
  refine ⟨ps, k _ _ (fun z => by rw [z, hl] at h1; cases h1) h1, h2, fun pos cv hc => ?_⟩
  obtain ⟨c, e1, e2⟩ := h3 pos cv hc
  exact ⟨c, e1, k _ _ (fun z => by rw [z, hl] at e2; unfold CodeO at e2; cases e2) e2⟩
/-- a lambda as a value: it is there, and all else is as it was -/
theorem lamV_reads {X : Cx} {T : List (Addr × Str)} {j : Nat} {D : LamD} {σ : L2.St} {H : Hp} {Q : VK} (hT : Tabs T H) (h : ∀ f H1, ExtN H H1 → Tabs T H1 → LamAt X j f H1 → Q (.ref f) H1) (hD : D = fam j := by rfl) : tLamV X T D σ H Q := by
  subst hD
  refine ⟨hT, fun f c' H1 e t n hc => ?_⟩
  have k := same_updN (o := LamO X.env.qual X.env.cells (fam j) c' f) n
  exact h f _ (e.trans (ExtN.of k)) (t.ext k) ⟨c', upd_same, k _ _ hc⟩
theorem set1_reads {ta : TE} {i : Nat} {D : Ends} {σ : L2.St} {H : Hp} (h : ta σ H fun x H1 => ∀ p H2, H1 p = none → Same H1 H2 → H2 p = some (.lst [x]) → D.nx (σ.set i (some (.ref p))) H2) (m : ∀ σ H Q Q', (∀ x H1, Q x H1 → Q' x H1) → ta σ H Q → ta σ H Q') : tAsg (tLst (tCons ta tNil)) (gName i) D σ H :=
  m _ _ _ _ (fun x H1 k => ⟨by have := big_line; show 1 ≤ sizeLine; omega, fun p n => k p _ n (same_updN n) upd_same⟩) h
theorem app_reads {K : PySem.W.Frag} {i : Nat} {l : Addr} {xs : List V} {ta : TE} {D : Ends} {σ : L2.St} {H : Hp} (e : σ[i]? = some (some (.ref l))) (hl : H l = some (.lst xs)) (h : ta σ H fun x H1 => H1 l = some (.lst xs) ∧ xs.length < sizeLine ∧ D.nx σ (upd H1 l (.lst (xs ++ [x])))) (m : ∀ σ H Q Q', (∀ x H1, Q x H1 → Q' x H1) → ta σ H Q → ta σ H Q') : tDrop (tBM K "list" rAppend (tVar i) (tCons ta tNil)) D σ H :=
  ⟨_, e, .inl ⟨rfl, _, SqL.of hl⟩, m _ _ _ _ (fun x H1 ⟨h1, h2, h3⟩ => ⟨l, xs, x, rfl, rfl, h1, h2, h3⟩) h⟩
theorem lamV_mono {X : Cx} {T : List (Addr × Str)} {D : LamD} : ∀ σ H (Q Q' : VK), (∀ x H1, Q x H1 → Q' x H1) → tLamV X T D σ H Q → tLamV X T D σ H Q' := fun _ _ _ _ k h => ⟨h.1, fun f c H1 e t n hc => k _ _ (h.2 f c H1 e t n hc)⟩
/-- what a told lambda of these brings back -/
theorem apart_told {K : PySem.W.Frag} {mg : Str → Option Value} (T : Txt K mg) {j : Nat} (hj : j < 3) {σ : L2.St} {H : Hp} {Q : VK} {a b : Addr} {ms os : List Nat} (e2 : σ[2]? = some (some (.ref a))) (e3 : σ[3]? = some (some (.ref b)))
    (ha : StAt K H a ms) (hb : StAt K H b os) (hl : ms.length ≠ os.length) (q : ∀ p a' H', Same H H' → ErrV H' a' (cO K) (.ref b) → SqT K H' p [.ref a', .non] → Q (.ref p) H') : TTold K (ga K "WireError") (fun E H' Q' => famT K j E σ H' Q') H Q := by
  intro H1 E Kc s1 hE _
  have out : EO K (.ref b) H1 E := fun d H' s' hd => hE _ _ _ ⟨T.oxM, fun a' p na np => by
    have k1 := same_updN (o := exv a' (.ref (cO K)) (some d)) na
    have k2 := same_updN (o := .tup [V.ref a', V.non]) np
    exact q p a' _ (s1.trans (s'.trans (k1.trans k2))) ⟨d, k2 _ _ upd_same, k2 _ _ (k1 _ _ hd)⟩ (SqT.of upd_same)⟩
  have ha1 := ha.same s1
  have hb1 := hb.same s1
  obtain ⟨dx, t, ea, _⟩ := id ha1
  obtain ⟨dy, u, eb, _⟩ := id hb1
  match j, hj with
  | 0, _ => exact ⟨_, e2, _, e3, a, dx, b, dy, _, _, rfl, rfl, ea, eb, a, b, ms, os, rfl, ha1, hb1, hl, out⟩
  | 1, _ => exact ⟨_, e2, _, e3, a, dx, b, dy, _, _, rfl, rfl, ea, eb, a, b, ms, os, rfl, ha1, hb1, hl, out⟩
  | 2, _ => exact ⟨_, e2, a, dx, _, rfl, ea, rfl, _, e3, a, b, ms, os, rfl, ha1, hb1, hl, out⟩
section
variable {K : PySem.W.Frag} {σ : L2.St} {H0 : Hp} {ta tb : TE} {ms os : List Nat} {mg : Str → Option Value}
theorem pB_held (T : Txt K mg) {i : Nat} {a : Addr} {v : V} (e : σ[i]? = some (some (.ref a))) (he : ErrV H0 a (cO K) v) : PureB (tCB (rIsHeld K) (tCons (tVar i) (tCons (tC (V.ref (cO K))) tNil))) σ H0 true := fun H Q s k =>
  ⟨_, e, a, cO K, v, .ref (cO K), .ref (cO K), true, rfl, he.same s, T.ox, .own _, T.oxK, k H (Same.refl _)⟩
theorem pS_xv (T : Txt K mg) {i : Nat} {a b : Addr} (e : σ[i]? = some (some (.ref a))) (he : ErrV H0 a (cO K) (.ref b)) (hb : StAt K H0 b ms) : PureS K (tXvV K (tVar i)) σ H0 ms := fun H Q s k =>
  ⟨_, e, a, cO K, _, rfl, he.same s, T.ox, k b H (Same.refl _) (hb.same s)⟩
theorem pB_neD (a : PureD K ta σ H0 (.tuple (ms.map fun n : Nat => PyData.int n))) (b : PureD K tb σ H0 (.tuple (os.map fun n : Nat => PyData.int n))) : PureB (tOp (rNeD K) ta tb) σ H0 (!decide (ms = os)) := fun H Q s k => a H _ s fun v H1 s1 hv => b H1 _ (s.trans s1) fun v2 H2 s2 hv2 =>
  ⟨_, _, dp_same s2 _ _ hv, hv2, shaped_mv ms, shaped_mv os, by rw [eqv_mv]; exact k H2 (s1.trans s2)⟩
end
section
variable {P : Program} {w : World} {K : PySem.W.Frag} {mg : Str → Option Value} {base : Heap}
def spApart (K : PySem.W.Frag) (T0 : List (Addr × Str)) : Sp := fun vs H Q _ => ∃ (t u : Addr) (ms os : List Nat), vs = [.ref t, .ref u] ∧ SqT K H t (mv ms) ∧ SqT K H u (mv os) ∧ Canon ms ∧ Canon os ∧ ms.length ≠ os.length ∧ Tabs T0 H ∧ ∀ H', ExtN H H' → Tabs T0 H' → Q (.bl true) H'
theorem ok_Apart {f c Pt : Addr} {fd fdT : FuncData} (T : Txt K mg) (F : FnP K "_law_are_apart_right" "_law_are_apart_right" sApart f fd) (hc : fd.code = .ref c) (TB : TabB base mg c Pt) (FTold : FnP K "_law_told" "_law_told" sTold (ga K "_law_told") fdT)
    (GInit : Pr P w K mg base 3 (ma K (cS K) "__init__") ["self", "marks"] (spInit K)) (GMarks : Pr P w K mg base 1 (He5.wf K (cS K) "property" "marks") ["self"] (spMarks K)) (GEq : Pr P w K mg base 1 (ma K (cS K) "__eq__") ["self", "other"] (spEq K))
    (XOr : PrX P w K mg base 4 (ma K (cS K) "__or__") ["self", "other"] (spChkX K)) (XAnd : PrX P w K mg base 4 (ma K (cS K) "__and__") ["self", "other"] (spChkX K)) (XWithin : PrX P w K mg base 4 (ma K (cS K) "within") ["self", "other"] (spChkX K)) :
    FnG P w K mg base CX0 7 f fd ["_law_mine", "_law_its"] (spApart K [(Pt, qA)]) := by
  have bTold : Binds K fdT ["_law_look"] [] := FTold.bindsN fun _ _ _ _ _ _ us hl => match us, hl with | [_], _ => rfl
  obtain ⟨fdO, FO, bO⟩ := XOr.ex
  obtain ⟨fdA, FA, bA⟩ := XAnd.ex
  obtain ⟨fdWi, FWi, bWi⟩ := XWithin.ex
  refine okGC F hc scApart (fun vs H Q E h => ?_) (fun A outer s H vs Q E hg hr h => ?_)
  · obtain ⟨t, u, ms, os, rfl, _⟩ := h
    rfl
  · obtain ⟨t, u, ms, os, rfl, ht, hu, cm, co, hl, hT, kk⟩ := h
    have big := big_line
    have hLam : ∀ j, j < 3 → LamS (defScope sApart) (fam j).scope := fun j hj => match j, hj with
      | 0, _ => LamX.lamS_by (by decide +kernel)
      | 1, _ => LamX.lamS_by (by decide +kernel)
      | 2, _ => LamX.lamS_by (by decide +kernel)
    have hBind : ∀ j, j < 3 → ∀ (q : Str) (cl : List (Str × Addr)) (pm cv ctv : Value), bindArgs (PySem.W.kla_fn "<lambda>" q (fam j).params (fam j).body (fam j).scope cl pm cv ctv) ⟨[], []⟩ = pure [] := fun j hj => match j, hj with
      | 0, _ => fun _ _ _ _ _ => rfl
      | 1, _ => fun _ _ _ _ _ => rfl
      | 2, _ => fun _ _ _ _ _ => rfl
    let X : Cx := (cxOf CX0 P w K mg base nApart "_law_are_apart_right" (defScope sApart) f (.ref c) A outer s H E).nox
    have hBody : ∀ j, j < 3 → ∀ (A2 : Around) (outer2 : List Env) (s2 : Shared) (H2 : Hp) (E2 : XK) (f2 c2 : Addr), Room 4 (A2.deeper (lamEnv X (fam j).scope s2.heap.objs.size f2 c2)) → PE (lamCx X A2 outer2 s2 H2 E2 (fam j).scope f2 c2) (fam j).body (famT K j E2) := fun j hj => match j, hj with
      | 0, _ => fun A2 outer2 s2 H2 E2 f2 c2 hr2 => pe_op (op_ownB (op := .BitOr) T.orAt (T.fn "__or__" (by decide +kernel)) T.sf FO hr2 bO (passes_call (takes_of rfl rfl rfl rfl) fun _ _ _ _ z => z)) (pv 2) (pv 3)
      | 1, _ => fun A2 outer2 s2 H2 E2 f2 c2 hr2 => pe_op (op_ownB (op := .BitAnd) T.andAt (T.fn "__and__" (by decide +kernel)) T.sf FA hr2 bA (passes_call (takes_of rfl rfl rfl rfl) fun _ _ _ _ z => z)) (pv 2) (pv 3)
      | 2, _ => fun A2 outer2 s2 H2 E2 f2 c2 hr2 => pe_meth (pv 2) T.cls ⟨T.at_ "within" (by decide +kernel), T.fn "within" (by decide +kernel), XWithin.kp⟩ FWi hr2 bWi .nil (passes_call (takes_of rfl rfl rfl rfl) fun _ _ _ _ z => z) (pa_cons (pv 3) pa_nil)
    refine ⟨_, PSs.nox (pss_cons (ps_asg (pe_tup (pa_cons (pmk T.mkr GInit (hr.mono (by decide)) rfl T.gS (pa_cons (pv 0) pa_nil)) (pa_cons (pmk T.mkr GInit (hr.mono (by decide)) rfl T.gS (pa_cons (pv 1) pa_nil)) pa_nil))) (tupG K 2 (pgs_cons (pg_name (i := 2) scApart.nd rfl (Or.inr rfl)) (pgs_cons (pg_name (i := 3) scApart.nd rfl (Or.inr rfl)) pgs_nil)))) (pss_cons (ps_set (i := 4) scApart.nd rfl (Or.inl rfl) (pe_lst (pa_cons (pe_lamV (T := [(Pt, qA)]) TB rfl (List.mem_singleton.mpr rfl) (fun p hp _ => congrArg Prod.snd (List.mem_singleton.mp hp)) (hLam 0 (by decide)) rfl) pa_nil))) (pss_cons (ps_expr (bmK K PySem.F.plainAttrs_list PySem.F.slot_list_append PySem.F.type_list_append mt_append (pv 4) (pa_cons (pe_lamV (T := [(Pt, qA)]) TB rfl (List.mem_singleton.mpr rfl) (fun p hp _ => congrArg Prod.snd (List.mem_singleton.mp hp)) (hLam 1 (by decide)) rfl) pa_nil))) (pss_cons (ps_expr (bmK K PySem.F.plainAttrs_list PySem.F.slot_list_append PySem.F.type_list_append mt_append (pv 4) (pa_cons (pe_lamV (T := [(Pt, qA)]) TB rfl (List.mem_singleton.mpr rfl) (fun p hp _ => congrArg Prod.snd (List.mem_singleton.mp hp)) (hLam 2 (by decide)) rfl) pa_nil))) (pss_cons (ps_for PassesOwn.never rfl (pi_list (pv 4)) (pg_name (i := 5) scApart.nd rfl (Or.inl rfl)) (pss_cons (ps_set (i := 6) scApart.nd rfl (Or.inl rfl) (pe_ix (ixT K) (pe_told (n := 3) (fam := fam) (t := famT K) (k := 4) rfl (T.gl "_law_told" (by decide +kernel)) FTold bTold scTold rfl (Or.inl rfl) (fun cdg => told_ok T.gW cdg) (hr.mono (by decide)) hLam hBind hBody (pv 5)) pe_int (fun _ _ => rfl))) (pss_one (ps_if (PW.pt (pw_or (pt_not (pt_val (pe_callB (call_isHeld K) rfl (T.free _ (by decide +kernel)) (by decide +kernel) (pa_cons (pv 6) (pa_cons (pe_glob (v := .ref (cO K)) rfl T.gO rfl) pa_nil))))) (pw_or (pt_not (pt_cmpR (opEq (T.at_ "__eq__" (by decide +kernel)) (T.fn "__eq__" (by decide +kernel)) GEq (hr.mono (by decide))) (pe_xvV K (pv 6)) (pv 3) (nomark _))) (pw_or1 (pt_cmpR (neK K (by have := hr.un; show (A.deeper _).units + 64 < cLine; omega)) (ppr (pe_xvV K (pv 6)) T.cls T.pMarks GMarks (hr.mono (by decide))) (pv 1) (nomark _)))))) (pss_one (ps_ret pe_bl)) pss_nil)))) (pss_one (ps_ret pe_bl))))))), ?_⟩
    have nf := T.nfst
    refine seq_reads (tup2_reads ?_)
    refine pS_mk (i := 0) rfl ht cm H _ (Same.refl _) fun a H1 s1 ha => ?_
    refine pS_mk (i := 1) rfl (sqT_same s1 hu) co H1 _ (Same.refl _) fun b H2 s2 hb => ⟨by show 2 ≤ sizeLine; omega, fun p0 np0 => ?_⟩
    refine ⟨p0, _, rfl, SqT.of upd_same, rfl, _, _, rfl, _, _, rfl, rfl, ?_⟩
    dsimp only
    have s23 := same_updN (o := .tup [V.ref a, V.ref b]) np0
    have s03 := s1.trans (s2.trans s23)
    have ha3 := ha.same (s2.trans s23)
    have hb3 := hb.same s23
    have hu3 := sqT_same s03 hu
    have hT3 := hT.ext s03
    have E3 : ExtN H (upd H2 p0 (.tup [V.ref a, V.ref b])) := ExtN.of s03
    generalize upd H2 p0 (.tup [V.ref a, V.ref b]) = G3 at ha3 hb3 hu3 hT3 E3
    -- the first lambda, in a new list
    refine seq_reads (set1_reads (lamV_reads (j := 0) hT3 fun f0 H4 e4 T4 L0 l G5 nl4 s45 hl5 => ?_) lamV_mono)
    have E5 := E3.trans (e4.trans (ExtN.of s45))
    have L05 : LamAt X 0 f0 G5 := L0.same s45
    have a5 := (extN_st ha3 e4).same s45
    have b5 := (extN_st hb3 e4).same s45
    have u5 := sqT_same s45 (extN_sq hu3 e4)
    have T5 := T4.ext s45
    dsimp only
    refine seq_reads (app_reads (i := 4) rfl hl5 (lamV_reads (j := 1) T5 fun f1 H6 e6 T6 L1 => ⟨e6 _ _ hl5 (fun ps z => by cases z), by show 1 < sizeLine; omega, ?_⟩) lamV_mono)
    have hl6 : H6 l = some (.lst [.ref f0]) := e6 _ _ hl5 fun ps z => by cases z
    have k6 : Keep l H6 (upd H6 l (.lst ([V.ref f0] ++ [V.ref f1]))) := fun b o n e => by rw [upd_ne n]; exact e
    have hl7 : upd H6 l (.lst ([V.ref f0] ++ [V.ref f1])) l = some (.lst [.ref f0, .ref f1]) := upd_same
    have L06 : LamAt X 0 f0 _ := (L05.ext e6).keep hl6 k6
    have L16 : LamAt X 1 f1 _ := (show LamAt X 1 f1 H6 from L1).keep hl6 k6
    have a7 := stAt_keep hl6 k6 (extN_st a5 e6)
    have b7 := stAt_keep hl6 k6 (extN_st b5 e6)
    have u7 := sqT_keep hl6 k6 (extN_sq u5 e6)
    have T7 := tabs_keep T6 hl6 k6
    have k67 := k6
    generalize upd H6 l (.lst ([V.ref f0] ++ [V.ref f1])) = G7 at hl7 L06 L16 a7 b7 u7 T7 k67
    -- the third one
    refine seq_reads (app_reads (i := 4) rfl hl7 (lamV_reads (j := 2) T7 fun f2 H8 e8 T8 L2 => ⟨e8 _ _ hl7 (fun ps z => by cases z), by show 2 < sizeLine; omega, ?_⟩) lamV_mono)
    have hl8 : H8 l = some (.lst [.ref f0, .ref f1]) := e8 _ _ hl7 fun ps z => by cases z
    have k8 : Keep l H8 (upd H8 l (.lst ([V.ref f0, V.ref f1] ++ [V.ref f2]))) := fun b o n e => by rw [upd_ne n]; exact e
    have hl9 : upd H8 l (.lst ([V.ref f0, V.ref f1] ++ [V.ref f2])) l = some (.lst [.ref f0, .ref f1, .ref f2]) := upd_same
    have L08 : LamAt X 0 f0 _ := (L06.ext e8).keep hl8 k8
    have L18 : LamAt X 1 f1 _ := (L16.ext e8).keep hl8 k8
    have L28 : LamAt X 2 f2 _ := (show LamAt X 2 f2 H8 from L2).keep hl8 k8
    have a9 := stAt_keep hl8 k8 (extN_st a7 e8)
    have b9 := stAt_keep hl8 k8 (extN_st b7 e8)
    have u9 := sqT_keep hl8 k8 (extN_sq u7 e8)
    have T9 := tabs_keep T8 hl8 k8
    have E9 : ExtN H (upd H8 l (.lst ([V.ref f0, V.ref f1] ++ [V.ref f2]))) := fun y o ey n => by
      have e4' : H4 y = some o := (E3.trans e4) y o ey n
      have hne : y ≠ l := fun z => by rw [z, nl4] at e4'; cases e4'
      exact k8 _ _ hne (e8 _ _ (k67 _ _ hne (e6 _ _ (s45 _ _ e4') n)) n)
    generalize upd H8 l (.lst ([V.ref f0, V.ref f1] ++ [V.ref f2])) = G9 at hl9 L08 L18 L28 a9 b9 u9 T9 E9
    have LL : ∀ (i : Nat) (x : V), ([V.ref f0, V.ref f1, V.ref f2] : List V)[i]? = some x → ∃ (j : Nat) (f : Addr), j < 3 ∧ x = V.ref f ∧ LamAt X j f G9 := fun i x hx => by
      match i, hx with
      | 0, hx => exact ⟨0, f0, by decide, (Option.some.inj hx).symm, L08⟩
      | 1, hx => exact ⟨1, f1, by decide, (Option.some.inj hx).symm, L18⟩
      | 2, hx => exact ⟨2, f2, by decide, (Option.some.inj hx).symm, L28⟩
    dsimp only
    refine seq_reads ⟨_, rfl, l, rfl, ⟨_, SqL.of hl9⟩, for_list (K := K) (a := l) (xs := [V.ref f0, V.ref f1, V.ref f2]) (fun i σ H' => ∃ z5 z6 : Option V, σ = [some (V.ref t), some (.ref u), some (.ref a), some (.ref b), some (.ref l), z5, z6] ∧ Same G9 H') ⟨_, _, rfl, Same.refl _⟩ (fun i σ H' _ ⟨_, _, _, s'⟩ => SqL.of (s' _ _ hl9)) ?_ ?_⟩
    · rintro i x σ H' hx ⟨z5, z6, rfl, s'⟩
      obtain ⟨j, f, hj, rfl, Lj⟩ := LL i x hx
      obtain ⟨cf, hLf, hcf⟩ := Lj.same s'
      refine seq_reads ⟨_, rfl, f, cf, j, rfl, hj, hLf, hcf, apart_told T hj rfl rfl (a9.same s') (b9.same s') hl fun p a' H2 s2 he hp => ?_⟩
      have s2' := s'.trans s2
      refine ⟨p, _, 0, _, rfl, rfl, hp, rfl, ?_⟩
      dsimp only
      refine if_no (pT_or (v1 := false) (v2 := false) (pT_not (v1 := true) (pT_b (pB_held T rfl he))) (pT_or (v1 := false) (v2 := false) (pT_not (v1 := true) (pT_test ?_)) (pT_test ?_))) (Same.refl H2) fun H3 s3 => ?_
      · have e : decide (os = os) = true := decide_eq_true rfl
        rw [← e]
        exact pB_eq T (pS_xv T rfl he (b9.same s2')) (pS_var rfl (b9.same s2'))
      · have e : (!decide (os = os)) = false := not_dec rfl
        rw [← e]
        exact pB_neD (pD_marks T (pS_xv T rfl he (b9.same s2'))) (pD_var rfl (sqT_same s2' u9))
      exact ⟨_, _, rfl, s2'.trans s3⟩
    · rintro σ H' ⟨z5, z6, rfl, s'⟩
      exact kk H' (E9.trans (ExtN.of s')) (T9.ext s')
end
end K02

set_option Elab.async false
set_option linter.all false
set_option maxRecDepth 100000
set_option maxHeartbeats 4000000
namespace K02
open PySem PySem.Spec PyProof.Rows L2 Lw LamX
abbrev sRight : Stmt := top 28
abbrev nRight : List Str := ["_law_pot_here", "_law_count", "_law_far", "_law_mine", "_law_its", "_law_third"]
theorem scRight : FnScope nRight ["_law_pot_here"] (defScope sRight) := ⟨rfl, rfl, rfl, by decide +kernel, rfl, by decide +kernel, by decide +kernel⟩
/-- a def's promise where nothing is being shown -/
structure PrG (P : Program) (w : World) (K : PySem.W.Frag) (mg : Str → Option Value) (base : Heap) (k : Nat) (f : Addr) (ps : List Str) (sp : Sp) : Prop where
  ex : ∃ fd, FnG P w K mg base CX0 k f fd ps sp ∧ Binds K fd ps []
  kp : PySem.W.keepIn K (.ref f) = true
theorem pclG {X : Cx} {k : Nat} {f : Addr} {x : Str} {ps : List Str} {sp : Sp} {p pos : Pos} {e : Expr} {es : List Expr} {t : TA} (G : PrG X.prog X.w X.K X.mg X.base k f ps sp) (hgd : X.A.guards = some []) (hr : Room k X.A) (hg : Gl X x) (hm : X.mg x = some (.ref f)) (ha : PA X (e :: es) t) (hdb : (x == ("__debug__" : Str)) = false := by decide)
    (he : starEach (e :: es) X.env = (false, eval e X.env) :: starEach es X.env := by rfl) (hpl : (backTo pos (starEach es X.env)).any (·.1) = false := by rfl) : PE X (.Call (.Name x p) (e :: es) [] pos) (tCall sp [] E0 t) := by
  obtain ⟨fd, F, b⟩ := G.ex
  exact pe_callG F hgd hr hg hm G.kp b .nil pass0 ha hdb he hpl
/-- all but the pot at q and the tables is as it was -/
def KeepN (q : Addr) (H H' : Hp) : Prop := ∀ b o, b ≠ q → H b = some o → (∀ ps, o ≠ .tbl ps) → H' b = some o
theorem KeepN.trans {q : Addr} {H H' H'' : Hp} (a : KeepN q H H') (b : KeepN q H' H'') : KeepN q H H'' := fun c o n e t => b c o n (a c o n e t) t
theorem KeepN.of {q : Addr} {H H' : Hp} (k : Keep q H H') : KeepN q H H' := fun c o n e _ => k c o n e
theorem KeepN.ext {q : Addr} {H H' : Hp} (k : ExtN H H') : KeepN q H H' := fun c o n e t => k c o e t
theorem PotAt.ext {H H' : Hp} {q : Addr} {n : Nat} (h : PotAt H q n) (k : ExtN H H') : PotAt H' q n := by
  obtain ⟨own, m, k', e, r⟩ := h
  exact ⟨own, m, k', k _ _ e (fun ps z => by cases z), r⟩
def PureM (K : PySem.W.Frag) (te : TE) (σ : L2.St) (H0 : Hp) (ms : List Nat) : Prop := ∀ (H : Hp) (Q : VK), Same H0 H → (∀ t H', Same H H' → SqT K H' t (mv ms) → Q (.ref t) H') → te σ H Q
section
variable {K : PySem.W.Frag} {σ : L2.St} {H0 : Hp} {ta tb : TE} {ms os : List Nat} {mg : Str → Option Value}
theorem pM_var {i : Nat} {t : Addr} (h : σ[i]? = some (some (.ref t))) (ht : SqT K H0 t (mv ms)) : PureM K (tVar i) σ H0 ms := fun H Q s k => ⟨_, h, k t H (Same.refl _) (sqT_same s ht)⟩
theorem pM_common {i j : Nat} {t u : Addr} (hi : σ[i]? = some (some (.ref t))) (hj : σ[j]? = some (some (.ref u))) (ht : SqT K H0 t (mv ms)) (hu : SqT K H0 u (mv os)) (c : Canon ms) (hl : ms.length = os.length) :
    PureM K (tCall (spCommon K) [] E0 (tCons (tVar i) (tCons (tVar j) tNil))) σ H0 (andM ms os) := fun H Q s k => ⟨_, hi, _, hj, t, u, ms, os, rfl, sqT_same s ht, sqT_same s hu, c, hl, fun p H' s' hp => k p H' s' hp⟩
theorem pM_rng {i c : Nat} (hi : σ[i]? = some (some (.int (c : Int)))) (h6 : c ≤ 6) : PureM K (tCB (fun xs H Q => ∃ p ys, xs = [.ref p] ∧ ((SqL K H p ys ∧ ∀ l, H l = none → Q (.ref l) (upd H l (.tup ys))) ∨ (SqT K H p ys ∧ Q (.ref p) H))) (tCons (tLstRg (tRg1 (tVar i))) tNil)) σ H0 (List.range c) := fun H Q s k =>
  ⟨_, hi, _, rfl, RgOk.of_le (by omega) (by omega) (by omega) (by omega), fun l nl => ⟨l, mv (List.range c), rfl, .inl ⟨SqL.of (by rw [upd_same, rg_mv _ c rfl]), fun p np => k p _ ((same_updN nl).trans (same_updN np)) (SqT.of upd_same)⟩⟩⟩
theorem pB_pair (a : PureM K ta σ H0 ms) (b : PureM K tb σ H0 os) (c : Canon ms) (d : Canon os) (hl : ms.length = os.length) : PureB (tCall (spPair K) [] E0 (tCons ta (tCons tb tNil))) σ H0 true := fun H Q s k =>
  a H _ s fun t H1 s1 ht => b H1 _ (s.trans s1) fun u H2 s2 hu => ⟨t, u, ms, os, rfl, sqT_same s2 ht, hu, c, d, hl, fun H' s' => k H' (s1.trans (s2.trans s'))⟩
end
theorem par3_reads {i j l : Nat} {ta tb tc : TE} {D : Ends} {σ : L2.St} {H : Hp} (h : ta σ H fun x H1 => tb σ H1 fun y H2 => tc σ H2 fun z H3 => ∃ u v w, [x, y, z] = [u, v, w] ∧ D.nx (((σ.set i (some u)).set j (some v)).set l (some w)) H3) : tPar3 i j l (tCons ta (tCons tb (tCons tc tNil))) D σ H := h
theorem canon_range {n : Nat} (h1 : 3 ≤ n) (h2 : n ≤ 6) : Canon (List.range n) := by
  have g : ∀ i, i < n → gd (List.range n) i = i := fun i h => by
    unfold gd
    simp [h]
  refine ⟨by simpa using h1, by simpa using h2, fun i h => ?_, fun i h => ?_⟩
  · rw [g i (by simpa using h)]
    exact Nat.le_refl _
  · rw [g i (by simpa using h), g i (by simpa using h)]
section
variable {P : Program} {w : World} {K : PySem.W.Frag} {mg : Str → Option Value} {base : Heap}
def spRight (K : PySem.W.Frag) (T0 : List (Addr × Str)) : Sp := fun vs H Q _ => ∃ (q : Addr) (n : Nat), vs = [.ref q] ∧ PotAt H q n ∧ n < 80000 ∧ Tabs T0 H ∧ ∀ H', KeepN q H H' → PotAt H' q (n + 20) → Tabs T0 H' → Q (.bl true) H'
theorem ok_Right {f Pt : Addr} {fd : FuncData} (T : Txt K mg) (F : FnP K "_law_right" "_law_right" sRight f fd) (GTake : Pr P w K mg base 1 (ga K "_law_take") ["_law_pot_here", "_law_upto"] (spTake K)) (GDrawn : Pr P w K mg base 3 (ga K "_law_drawn_marks") ["_law_pot_here", "_law_count"] (spDrawn K))
    (GCommon : Pr P w K mg base 1 (ga K "_law_common_marks") ["_law_one", "_law_other"] (spCommon K)) (GPair : PrG P w K mg base 7 (ga K "_law_is_pair_right") ["_law_mine", "_law_its"] (spPair K)) (GApart : PrG P w K mg base 7 (ga K "_law_are_apart_right") ["_law_mine", "_law_its"] (spApart K [(Pt, qA)])) :
    FnG P w K mg base CX0 8 f fd ["_law_pot_here"] (spRight K [(Pt, qA)]) := by
  refine okG F scRight (fun vs H Q E h => ?_) (fun cdv A outer s H vs Q E hg hr h => ?_)
  · obtain ⟨q, n, rfl, _⟩ := h
    rfl
  · obtain ⟨q, n, rfl, hp, hn, hT, kk⟩ := h
    have big := big_line
    refine ⟨_, PSs.nox (pss_cons (ps_par (i := 1) (j := 2) (by rfl) scRight.nd rfl rfl (by decide) rfl rfl (pa_cons (pe_op op_add pe_int (pcl GTake (hr.mono (by decide)) rfl (T.gl "_law_take" (by decide +kernel)) (pa_cons (pv 0) (pa_cons pe_int pa_nil)))) (pa_cons (pe_op op_add pe_int (pcl GTake (hr.mono (by decide)) rfl (T.gl "_law_take" (by decide +kernel)) (pa_cons (pv 0) (pa_cons pe_int pa_nil)))) pa_nil)) (by rfl)) (pss_cons (ps_par3 (i := 3) (j := 4) (l := 5) rfl scRight.nd rfl rfl rfl (by decide) (by decide) (by decide) rfl rfl rfl (pa_cons (pcl GDrawn (hr.mono (by decide)) rfl (T.gl "_law_drawn_marks" (by decide +kernel)) (pa_cons (pv 0) (pa_cons (pv 1) pa_nil))) (pa_cons (pcl GDrawn (hr.mono (by decide)) rfl (T.gl "_law_drawn_marks" (by decide +kernel)) (pa_cons (pv 0) (pa_cons (pv 1) pa_nil))) (pa_cons (pcl GDrawn (hr.mono (by decide)) rfl (T.gl "_law_drawn_marks" (by decide +kernel)) (pa_cons (pv 0) (pa_cons (pv 2) pa_nil))) pa_nil))) (by rfl)) (pss_cons (ps_if (PW.pt (pw_or (pt_not (pt_val (pclG GPair hg (hr.mono (by decide)) rfl (T.gl "_law_is_pair_right" (by decide +kernel)) (pa_cons (pv 3) (pa_cons (pv 4) pa_nil))))) (pw_or1 (pt_not (pt_val (pclG GPair hg (hr.mono (by decide)) rfl (T.gl "_law_is_pair_right" (by decide +kernel)) (pa_cons (pv 3) (pa_cons (pv 3) pa_nil)))))))) (pss_one (ps_ret pe_bl)) pss_nil) (pss_cons (ps_if (pt_not (pt_val (pclG GPair hg (hr.mono (by decide)) rfl (T.gl "_law_is_pair_right" (by decide +kernel)) (pa_cons (pcl GCommon (hr.mono (by decide)) rfl (T.gl "_law_common_marks" (by decide +kernel)) (pa_cons (pv 3) (pa_cons (pv 4) pa_nil))) (pa_cons (pv 3) pa_nil))))) (pss_one (ps_ret pe_bl)) pss_nil) (pss_cons (ps_if (pt_not (pt_val (pclG GPair hg (hr.mono (by decide)) rfl (T.gl "_law_is_pair_right" (by decide +kernel)) (pa_cons (pv 4) (pa_cons (pe_callTy call_tuple_of rfl (T.free _ (by decide +kernel)) (by decide +kernel) (pa_cons (pe_listRg rfl rfl (T.free _ (by decide +kernel)) (prg_1 rfl (T.free _ (by decide +kernel)) (pv 1))) pa_nil)) pa_nil))))) (pss_one (ps_ret pe_bl)) pss_nil) (pss_one (ps_ret (pe_ifExp (pt_cmpR op_ne (pv 1) (pv 2) (nomark _)) (pclG GApart hg (hr.mono (by decide)) rfl (T.gl "_law_are_apart_right" (by decide +kernel)) (pa_cons (pv 3) (pa_cons (pv 5) pa_nil))) (pclG GPair hg (hr.mono (by decide)) rfl (T.gl "_law_is_pair_right" (by decide +kernel)) (pa_cons (pv 3) (pa_cons (pv 5) pa_nil))))))))))), ?_⟩
    refine seq_reads (par_reads ⟨_, rfl, q, 4, n, rfl, hp, by omega, by decide, by decide, fun d1 H1 k1 p1 d10 d11 => ⟨3, d1, rfl, rfl, _, rfl, q, 4, n + 1, rfl, p1, by omega, by decide, by decide, fun d2 H2 k2 p2 d20 d21 => ⟨3, d2, rfl, rfl, _, _, rfl, ?_⟩⟩⟩)
    obtain ⟨c, hc, c3, c6⟩ : ∃ c : Nat, 3 + d1 = (c : Int) ∧ 3 ≤ c ∧ c ≤ 6 := ⟨(3 + d1).toNat, by omega, by omega, by omega⟩
    obtain ⟨e, he, e3, e6⟩ : ∃ e : Nat, 3 + d2 = (e : Int) ∧ 3 ≤ e ∧ e ≤ 6 := ⟨(3 + d2).toNat, by omega, by omega, by omega⟩
    dsimp only
    rw [hc, he]
    refine seq_reads (par3_reads ⟨_, rfl, _, rfl, q, c, n + 2, rfl, c6, p2, by omega, fun t1 m1 H3 k3 p3 q1 h1 => ⟨_, rfl, _, rfl, q, c, n + 8, rfl, c6, p3, by omega, fun t2 m2 H4 k4 p4 q2 h2 => ⟨_, rfl, _, rfl, q, e, n + 14, rfl, e6, p4, by omega, fun t3 m3 H5 k5 p5 q3 h3 => ⟨_, _, _, rfl, ?_⟩⟩⟩⟩)
    dsimp only
    obtain ⟨_, _, _, z0, _⟩ := id hp
    obtain ⟨_, _, _, z1, _⟩ := id p1
    obtain ⟨_, _, _, z2, _⟩ := id p2
    obtain ⟨_, _, _, z3, _⟩ := id p3
    obtain ⟨_, _, _, z4, _⟩ := id p4
    have T5 := tabs_keep (tabs_keep (tabs_keep (tabs_keep (tabs_keep hT z0 k1) z1 k2) z2 k3) z3 k4) z4 k5
    have K5 : Keep q H H5 := (((k1.trans k2).trans k3).trans k4).trans k5
    have g1 := sqT_keep z4 k5 (sqT_keep z3 k4 h1)
    have g2 := sqT_keep z4 k5 h2
    have c1 := q1.canon c3 c6
    have c2 := q2.canon c3 c6
    have c4 := q3.canon e3 e6
    have l1 := q1.len
    have l2 := q2.len
    have l3 := q3.len
    have hl : m1.length = m2.length := by omega
    have cr := canon_range c3 c6
    refine if_no (pT_or (v1 := false) (v2 := false) (pT_not (v1 := true) (pT_b (pB_pair (pM_var rfl g1) (pM_var rfl g2) c1 c2 hl))) (pT_not (v1 := true) (pT_b (pB_pair (pM_var rfl g1) (pM_var rfl g1) c1 c1 rfl)))) (Same.refl H5) fun H6 s6 => ?_
    dsimp only [tNext]
    refine if_no (pT_not (v1 := true) (pT_b (pB_pair (pM_common rfl rfl g1 g2 c1 hl) (pM_var rfl g1) (and_canon (os := m2) c1 hl) c1 (and_len hl)))) s6 fun H7 s7 => ?_
    dsimp only [tNext]
    refine if_no (pT_not (v1 := true) (pT_b (pB_pair (pM_var rfl g2) (pM_rng rfl c6) c2 cr (by rw [List.length_range]; exact l2)))) s7 fun H8 s8 => ?_
    dsimp only [tNext]
    have p8 := (p5.mono (n' := n + 20) (by omega)).same s8
    have T8 := T5.ext s8
    have K8 : KeepN q H H8 := (KeepN.of K5).trans (KeepN.ext (ExtN.of s8))
    refine ⟨_, rfl, _, rfl, rfl, _, rfl, ?_⟩
    by_cases hce : c = e
    · subst hce
      refine ifF (by simp) ?_
      exact ⟨_, rfl, _, rfl, t1, t3, m1, m3, rfl, sqT_same s8 g1, sqT_same s8 h3, c1, c4, by omega, fun H' s' => kk H' (K8.trans (KeepN.ext (ExtN.of s'))) (p8.same s') (T8.ext s')⟩
    · refine ifT ?_ ?_
      · rw [Bool.not_eq_true']
        exact decide_eq_false fun z => hce (by have z2 := V.int.inj z; omega)
      exact ⟨_, rfl, _, rfl, t1, t3, m1, m3, rfl, sqT_same s8 g1, sqT_same s8 h3, c1, c4, by omega, T8, fun H' eN TN => kk H' (K8.trans (KeepN.ext eN)) (p8.ext eN) TN⟩
end
end K02

set_option Elab.async false
set_option linter.all false
set_option maxRecDepth 100000
set_option maxHeartbeats 4000000
namespace K02
open PySem PySem.Spec PyProof.Rows L2 Lw LamX
abbrev sLaw : Stmt := top 29
abbrev nLaw : List Str := ["_law_script", "_law_place", "_law_pot_here", "_law_lap"]
theorem scLaw : FnScope nLaw ["_law_script"] (defScope sLaw) := ⟨rfl, rfl, rfl, by decide +kernel, rfl, by decide +kernel, by decide +kernel⟩
theorem sqL_ext {K : PySem.W.Frag} {H H' : Hp} {t : Addr} {xs : List V} (h : SqL K H t xs) (e : ExtN H H') : SqL K H' t xs := by
  rcases h with (q | ⟨ob, q⟩) | q
  · exact .inl (.inl (e _ _ q fun ps z => by cases z))
  · exact .inl (.inr ⟨ob, e _ _ q fun ps z => by cases z⟩)
  · exact .inr q
section
variable {P : Program} {w : World} {K : PySem.W.Frag} {mg : Str → Option Value} {base : Heap}
def spLaw (K : PySem.W.Frag) (T0 : List (Addr × Str)) : Sp := fun vs H Q _ => ∃ (a : Addr) (ns : List Int), vs = [.ref a] ∧ SqL K H a (ns.map V.int) ∧ Tabs T0 H ∧ ∀ H', Q (.bl true) H'
theorem ok_Law {f Pt : Addr} {fd : FuncData} (T : Txt K mg) (F : FnP K "law" "law" sLaw f fd) (GCells : Pr P w K mg base 1 (ga K "_law_cells") ["_law_script", "_law_limit"] (spCells K))
    (GPot : Pr P w K mg base 1 (ga K "_law_pot") ["_law_script", "_law_place"] (spPot K)) (GRight : PrG P w K mg base 8 (ga K "_law_right") ["_law_pot_here"] (spRight K [(Pt, qA)])) : FnG P w K mg base CX0 9 f fd ["_law_script"] (spLaw K [(Pt, qA)]) := by
  refine okG F scLaw (fun vs H Q E h => ?_) (fun cdv A outer s H vs Q E hg hr h => ⟨_, PSs.nox (pss_cons (ps_for PassesOwn.never rfl (pi_list (pcl GCells (hr.mono (by decide)) rfl (T.gl "_law_cells" (by decide +kernel)) (pa_cons (pv 0) (pa_cons pe_int pa_nil)))) (pg_name (i := 1) scLaw.nd rfl (Or.inl rfl)) (pss_cons (ps_set (i := 2) scLaw.nd rfl (Or.inr rfl) (pcl GPot (hr.mono (by decide)) rfl (T.gl "_law_pot" (by decide +kernel)) (pa_cons (pv 0) (pa_cons (pv 1) pa_nil)))) (pss_one (ps_if (pt_not (pt_val (pe_callB (cr_all rfl) rfl (T.free _ (by decide +kernel)) (by decide +kernel) (pa_cons (pe_lc (own := [("_law_lap", 3)]) (g := gName 3) (tt := tYes) rfl scLaw.nd (pi_range1 rfl (T.free _ (by decide +kernel)) (pa_cons pe_int pa_nil)) (blkOk_by (N := nLaw) (sc := defScope sLaw) (by decide +kernel)) (fun _ _ _ _ _ => (pg_name (i := 3) scLaw.nd rfl (Or.inl rfl))) (fun _ _ _ _ _ => pts_nil) (fun _ _ _ _ _ => (pclG GRight hg (hr.mono (by decide)) rfl (T.gl "_law_right" (by decide +kernel)) (pa_cons (pv 2) pa_nil)))) pa_nil)))) (pss_one (ps_ret pe_bl)) pss_nil)))) (pss_one (ps_ret pe_bl))), ?_⟩)
  · obtain ⟨a, ns, rfl, _⟩ := h
    rfl
  · obtain ⟨a, ns, rfl, hs, hT, kk⟩ := h
    have big := big_line
    refine seq_reads ⟨_, rfl, a, ns, 6, rfl, hs, by decide, by decide, fun lc cc H4 s4 hc hlc => ⟨lc, rfl, ⟨_, SqL.of hlc⟩, for_list (K := K) (a := lc) (xs := mv (List.range cc)) (fun i σ H' => ∃ z1 z2 z3 : Option V, σ = [some (.ref a), z1, z2, z3] ∧ ExtN H4 H' ∧ Tabs [(Pt, qA)] H')
      ⟨_, _, _, rfl, ExtN.refl _, hT.ext s4⟩ (fun i σ H' _ ⟨_, _, _, _, s', _⟩ => SqL.of (s' _ _ hlc fun ps z => by cases z)) ?_ ?_⟩⟩
    · rintro i x σ H5 hx ⟨z1, z2, z3, rfl, s5, T5⟩
      obtain ⟨p, hp, rfl⟩ := List.mem_map.mp (List.mem_of_getElem? hx)
      have hp := List.mem_range.mp hp
      dsimp only [gName]
      refine seq_reads (set_reads ⟨_, rfl, _, rfl, a, ns, p, rfl, sqL_ext (s4.seq hs) s5, by omega, fun q H6 s6 nq p6 => ?_⟩)
      dsimp only
      refine ⟨6, rfl, by decide, by decide, fun G hG => lc_range (lo := 0) (n := 6) (fun k H' => H' G = some (.lst (List.replicate k (V.bl true))) ∧ PotAt H' q (20 * k) ∧ Tabs [(Pt, qA)] H' ∧ (∀ b o, b ≠ q → b ≠ G → H6 b = some o → (∀ ps, o ≠ .tbl ps) → H' b = some o)) ⟨upd_same, p6.same (same_updN hG), (T5.ext s6).ext (same_updN hG), fun b o n1 n2 e _ => by rw [upd_ne n2]; exact e⟩ ?_ ?_⟩
      · rintro k H7 hk ⟨hG7, p7, T7, k7⟩
        have nGq : G ≠ q := fun z => by
          rw [z] at hG
          obtain ⟨_, _, _, e, _⟩ := id p6
          rw [e] at hG
          cases hG
        refine ⟨rfl, _, rfl, q, 20 * k, rfl, p7, by omega, T7, fun H8 k8 p8 T8 => ?_⟩
        have hG8 := k8 _ _ nGq hG7 (fun ps z => by cases z)
        have kG : Keep G H8 (upd H8 G (.lst (List.replicate k (V.bl true) ++ [V.bl true]))) := fun b o n e => by rw [upd_ne n]; exact e
        refine ⟨_, hG8, by rw [List.length_replicate]; omega, ?_, ?_, tabs_keep T8 hG8 kG, fun b o n1 n2 e t => ?_⟩
        · rw [upd_same, List.replicate_succ']
        · obtain ⟨o', m', k', e5, r5⟩ := p8.mono (n' := 20 * (k + 1)) (by omega)
          exact ⟨o', m', k', by rw [upd_ne (Ne.symm nGq)]; exact e5, r5⟩
        · rw [upd_ne n2]
          exact k8 _ _ n1 (k7 _ _ n1 n2 e t) t
      · rintro H7 ⟨hG7, p7, T7, k7⟩
        refine ⟨G, List.replicate 6 true, rfl, SqL.of hG7, true, rfl, iteF ?_⟩
        refine ⟨_, _, _, rfl, fun b o e t => ?_, T7⟩
        have e5 := s5 _ _ e t
        exact k7 _ _ (fun z => by rw [z, nq] at e5; cases e5) (fun z => by have e6 := s6 _ _ e5; rw [z, hG] at e6; cases e6) (s6 _ _ e5) t
    · rintro σ H5 ⟨z1, z2, z3, rfl, s5, T5⟩
      exact kk H5
end
end K02

set_option Elab.async false
set_option linter.all false
set_option maxRecDepth 100000
set_option maxHeartbeats 0
namespace K02
open PySem PySem.Spec PyProof.Rows L2 Lw LamX
def gloB (K : PySem.W.Frag) (x : Str) : Bool := He.eqO (PySem.W.nsIn K mainGlobals x) (some (some (.ref (ga K x))))
def five : List Str := ["within", "__contains__", "__or__", "__and__", "__eq__"]
def chkW (K : PySem.W.Frag) : Bool := gloB K "WireError" && (gloB K "OtherWires" && (xcB K (ga K "OtherWires") && (He.eqO (PySem.W.findIn K (.ref (ga K "OtherWires")) "__init__") (some (some (.ref (ma K (ga K "WireError") "__init__")))) &&
  (decide (PySem.W.typeIn K (.ref (ma K (ga K "WireError") "__init__")) = some (.type "function")) && (decide (PySem.W.kitOne K (.ref (ga K "OtherWires")) (.ref (ga K "OtherWires")) = some true) && decide (PySem.W.exmOne K (.ref (ga K "OtherWires")) (.ref (ga K "WireError")) = some true))))))
def chk (K : PySem.W.Frag) : Bool := chkW K && ((frees.all fun x => He.eqO (PySem.W.nsIn K mainGlobals x) (some none)) && ((globals.all fun x => gloB K x) && (gloB K "Standing" && (He.Fa.ok K (.int "LEAST_WIRES" 1) && (He.Fa.ok K (.int "MOST_WIRES" 4) && (He.Fa.ok K (.cls "Standing") &&
  (He.Fa.ok K (.noat "Standing" "_marks") && (He.Fa.ok K (.mkr "Standing") && (propB K (cS K) "marks" && (propB K (cS K) "wires" && ((five.all fun m => He.eqO (PySem.W.findIn K (.ref (cS K)) m) (some (some (.ref (ma K (cS K) m)))) && PySem.W.isFn K (.ref (ma K (cS K) m))) &&
  (PySem.W.selfFirst K (cS K) && (decide (PySem.W.mroIn K (cS K) (.type "object") = some true) && (He.eqO (PySem.W.findIn K (.ref (cS K)) "__ne__") (some (some (.builtin "object.__ne__"))) && (PySem.W.notFirst K (cS K) (.ref (cS K)) && (decide (PySem.W.kitOne K (.ref (cS K)) (.ref (cS K)) = some true) &&
  (He.eqO (PySem.W.findIn K (.ref (cS K)) "__class__") (some (some (.builtin "object.__class__"))) && (He.eqO (PySem.W.specialIn K (.builtin "object.__class__") "__get__") (some (some (.builtin "getset_descriptor.__get__"))) && decide (PySem.W.takesIn K (.builtin "object.__class__") = some true)))))))))))))))))))
def gd_ (x : String) (st : Stmt) : He5.DefA := ⟨fun K => ga K x, x, x, defArgs st, defBody st, defScope st, [], []⟩
def md_ (m q : String) (st : Stmt) : He5.DefA := ⟨fun K => ma K (cS K) m, m, q, defArgs st, defBody st, defScope st, [], []⟩
def wd_ (T m q : String) (st : Stmt) : He5.DefA := ⟨fun K => He5.wf K (cS K) T m, m, q, defArgs st, defBody st, defScope st, [], []⟩
def we_ (st : Stmt) : He5.DefA := ⟨fun K => ma K (ga K "WireError") "__init__", "__init__", "WireError.__init__", defArgs st, defBody st, defScope st, [], []⟩
def fn : List He5.DefA := [gd_ "is_int" sIsInt, gd_ "are_marks" sAreM, gd_ "merged" sMrg, gd_ "check_wires" sChk, md_ "__init__" "Standing.__init__" sInit, wd_ "property" "marks" "Standing.marks" sMarks, wd_ "property" "wires" "Standing.wires" sWires, md_ "within" "Standing.within" sWithin, md_ "__contains__" "Standing.__contains__" sCont, md_ "__or__" "Standing.__or__" sOr, md_ "__and__" "Standing.__and__" sAnd, md_ "__eq__" "Standing.__eq__" sEq, we_ sWInit, gd_ "_law_pot" sPot, gd_ "_law_take" sTake, gd_ "_law_of" sOf, gd_ "_law_cells" sCells, gd_ "_law_merged" sMerged, gd_ "_law_marks" sLMarks, gd_ "_law_told" sTold, gd_ "_law_drawn_marks" sDrawn, gd_ "_law_joined_marks" sJoined, gd_ "_law_common_marks" sCommon, gd_ "_law_lie_within" sLieW, gd_ "_law_is_pair_right" sPair, gd_ "_law_are_apart_right" sApart, gd_ "_law_right" sRight, gd_ "law" sLaw]
def tf : List He.Defn := [("_law_are_apart_right", none)]
def loose : List Str := ["_wall", "WireError", "BadMarks", "OtherWires", "is_int", "LEAST_WIRES", "MOST_WIRES", "Standing", "are_marks", "check_wires", "merged", "_law_pot", "_law_take", "_law_of", "_law_cells", "_law_merged", "_law_marks", "_law_told", "_law_drawn_marks", "_law_joined_marks", "_law_common_marks", "_law_lie_within", "_law_is_pair_right", "_law_are_apart_right", "_law_right"]
abbrev R : PySem.W.OpenRow := PySem.W.OpenLaw.row PySem.Challenge.rw_landingwires_k02_standings_put_together
abbrev hk : PySem.W.Hook := hookCT 6 chk fn tf
def ob (s : PySem.W.SharedT) : He.AlX := obsCT 6 chk fn tf (HandSHeadRun.getT s)
theorem ob_eq (s : PySem.W.SharedT) : ob s = hk.obs s.abs := obsCT_eq (HandSHeadRun.getT_eq s)
theorem run (w : World) : HandSHeadRun.RunEq R (PySem.W.view R.prog [29]) hk ob 8000 loose w := by
  intro os
  kernel_rfl
theorem txt_of {K : PySem.W.Frag} {h : Heap} {mg : Str → Option Value} (X : K.In h) (G : h.Ns mainGlobals mg) (c : chk K = true) : Txt K mg := by
  unfold chk at c
  obtain ⟨cw, c⟩ := He.ba c
  unfold chkW at cw
  obtain ⟨w1, cw⟩ := He.ba cw
  obtain ⟨w2, cw⟩ := He.ba cw
  obtain ⟨w3, cw⟩ := He.ba cw
  obtain ⟨w4, cw⟩ := He.ba cw
  obtain ⟨w5, cw⟩ := He.ba cw
  obtain ⟨w6, w7⟩ := He.ba cw
  obtain ⟨c1, c⟩ := He.ba c
  obtain ⟨c2, c⟩ := He.ba c
  obtain ⟨c3, c⟩ := He.ba c
  obtain ⟨c4, c⟩ := He.ba c
  obtain ⟨c5, c⟩ := He.ba c
  obtain ⟨c6, c⟩ := He.ba c
  obtain ⟨c7, c⟩ := He.ba c
  obtain ⟨c8, c⟩ := He.ba c
  obtain ⟨c9, c⟩ := He.ba c
  obtain ⟨c10, c⟩ := He.ba c
  obtain ⟨c11, c⟩ := He.ba c
  obtain ⟨c12, c⟩ := He.ba c
  obtain ⟨c13, c⟩ := He.ba c
  obtain ⟨c14, c⟩ := He.ba c
  obtain ⟨c15, c⟩ := He.ba c
  obtain ⟨c16, c⟩ := He.ba c
  obtain ⟨c17, c⟩ := He.ba c
  obtain ⟨c18, c19⟩ := He.ba c
  refine { free := fun x hx => ?_, gl := fun x hx => ?_, gS := ?_, nums := fun x i hx => ?_, cls := He.cls_ok c6, nof := He.noat_ok c7, mkr := He.mkr_ok c8, pMarks := propB_ok c9, pWires := propB_ok c10, at_ := fun m hm => ?_, fn := fun m hm => ?_, sf := c12, obj := of_decide_eq_true c13, ne := He.eqO_ok c14, nfst := c15, kit := of_decide_eq_true c16, ca := He.eqO_ok c17, cg := He.eqO_ok c18, ct := of_decide_eq_true c19, gW := PySem.W.mg_of X G (He.eqO_ok w1), gO := PySem.W.mg_of X G (He.eqO_ok w2), ox := xcB_ok w3, oxI := He.eqO_ok w4, oxT := of_decide_eq_true w5, oxK := of_decide_eq_true w6, oxM := of_decide_eq_true w7 }
  · exact PySem.W.mg_none_of X G (He.eqO_ok (List.all_eq_true.mp c1 x hx))
  · exact PySem.W.mg_of X G (He.eqO_ok (List.all_eq_true.mp c2 x hx))
  · exact PySem.W.mg_of X G (He.eqO_ok c3)
  · rcases List.mem_cons.mp hx with e | hx
    · cases e
      exact He.int_ok X G c4
    · cases List.mem_singleton.mp hx
      exact He.int_ok X G c5
  · exact He.eqO_ok (He.ba (List.all_eq_true.mp c11 m hm)).1
  · exact (He.ba (List.all_eq_true.mp c11 m hm)).2
/-- the table of the def that makes lambdas -/
abbrev cA (K : PySem.W.Frag) : Addr × Addr := He.cT K ("_law_are_apart_right", none)
theorem code_of {K : PySem.W.Frag} {fd : FuncData} (F : FnP K "_law_are_apart_right" "_law_are_apart_right" sApart (ga K "_law_are_apart_right") fd) : fd.code = .ref (cA K).1 := by
  obtain ⟨oc, od, dV, kV, doc, pm, an, cdv, ct, osl, rfl, lk, hcd, _, _⟩ := F.ex
  obtain ⟨c, rfl⟩ := He.codeIn_ref hcd
  exact congrArg Value.ref (He.codeOf_eq (p := ("_law_are_apart_right", none)) lk rfl).symm
theorem facts {P : Program} {w : World} {K : PySem.W.Frag} {h : Heap} {mg : Str → Option Value} {f : Addr} (X : K.In h) (G : h.Ns mainGlobals mg) (hfa : mg ("law" : Str) = some (.ref f)) (c : SaysC chk fn K) :
    ∃ fd : FuncData, (∀ (s : Shared) (v : Value), BindsTo s fd ⟨[v], []⟩ [("_law_script", v)]) ∧ ∀ base : Heap, K.In base → base.Ns mainGlobals mg → TabB base mg (cA K).1 (cA K).2 → FnG P w K mg base CX0 9 f fd ["_law_script"] (spLaw K [((cA K).2, qA)]) := by
  have T := txt_of X G c.chk
  obtain ⟨_, F0⟩ := c.def_ 0 (d := gd_ "is_int" sIsInt) rfl
  obtain ⟨_, F1⟩ := c.def_ 1 (d := gd_ "are_marks" sAreM) rfl
  obtain ⟨_, F2⟩ := c.def_ 2 (d := gd_ "merged" sMrg) rfl
  obtain ⟨_, F3⟩ := c.def_ 3 (d := gd_ "check_wires" sChk) rfl
  obtain ⟨_, F4⟩ := c.def_ 4 (d := md_ "__init__" "Standing.__init__" sInit) rfl
  obtain ⟨_, F5⟩ := c.def_ 5 (d := wd_ "property" "marks" "Standing.marks" sMarks) rfl
  obtain ⟨_, F6⟩ := c.def_ 6 (d := wd_ "property" "wires" "Standing.wires" sWires) rfl
  obtain ⟨_, F7⟩ := c.def_ 7 (d := md_ "within" "Standing.within" sWithin) rfl
  obtain ⟨_, F8⟩ := c.def_ 8 (d := md_ "__contains__" "Standing.__contains__" sCont) rfl
  obtain ⟨_, F9⟩ := c.def_ 9 (d := md_ "__or__" "Standing.__or__" sOr) rfl
  obtain ⟨_, F10⟩ := c.def_ 10 (d := md_ "__and__" "Standing.__and__" sAnd) rfl
  obtain ⟨_, F11⟩ := c.def_ 11 (d := md_ "__eq__" "Standing.__eq__" sEq) rfl
  obtain ⟨_, F12⟩ := c.def_ 12 (d := we_ sWInit) rfl
  obtain ⟨_, F13⟩ := c.def_ 13 (d := gd_ "_law_pot" sPot) rfl
  obtain ⟨_, F14⟩ := c.def_ 14 (d := gd_ "_law_take" sTake) rfl
  obtain ⟨_, F15⟩ := c.def_ 15 (d := gd_ "_law_of" sOf) rfl
  obtain ⟨_, F16⟩ := c.def_ 16 (d := gd_ "_law_cells" sCells) rfl
  obtain ⟨_, F17⟩ := c.def_ 17 (d := gd_ "_law_merged" sMerged) rfl
  obtain ⟨_, F18⟩ := c.def_ 18 (d := gd_ "_law_marks" sLMarks) rfl
  obtain ⟨_, F19⟩ := c.def_ 19 (d := gd_ "_law_told" sTold) rfl
  obtain ⟨_, F20⟩ := c.def_ 20 (d := gd_ "_law_drawn_marks" sDrawn) rfl
  obtain ⟨_, F21⟩ := c.def_ 21 (d := gd_ "_law_joined_marks" sJoined) rfl
  obtain ⟨_, F22⟩ := c.def_ 22 (d := gd_ "_law_common_marks" sCommon) rfl
  obtain ⟨_, F23⟩ := c.def_ 23 (d := gd_ "_law_lie_within" sLieW) rfl
  obtain ⟨_, F24⟩ := c.def_ 24 (d := gd_ "_law_is_pair_right" sPair) rfl
  obtain ⟨_, F25⟩ := c.def_ 25 (d := gd_ "_law_are_apart_right" sApart) rfl
  obtain ⟨_, F26⟩ := c.def_ 26 (d := gd_ "_law_right" sRight) rfl
  obtain ⟨fd, F27⟩ := c.def_ 27 (d := gd_ "law" sLaw) rfl
  have e := hfa.symm.trans (T.gl "law" (by decide +kernel))
  cases e
  have b := FunD.bindsA (ps := ["_law_script"]) F27 fun _ _ _ _ _ _ us hl => match us, hl with | [_], _ => rfl
  refine ⟨fd, fun s v => b s [v] rfl, fun base _ _ TB => ?_⟩
  have GIsInt := ok_IsInt (P := P) (w := w) (base := base) T F0 
  have GAreM := ok_AreM (P := P) (w := w) (base := base) T F1 GIsInt
  have GMrg := ok_Mrg (P := P) (w := w) (base := base) T F2 
  have GMarks := ok_Marks (P := P) (w := w) (base := base) T F5 
  have GWires := ok_Wires (P := P) (w := w) (base := base) T F6 
  have GChk := ok_Chk (P := P) (w := w) (base := base) T F3 GWires
  have GInit := ok_Init (P := P) (w := w) (base := base) T F4 GAreM
  have GCont := ok_Cont (P := P) (w := w) (base := base) T F8 GIsInt
  have GWithin := ok_Within (P := P) (w := w) (base := base) T F7 GChk GCont
  have GOr := ok_Or (P := P) (w := w) (base := base) T F9 GChk GMarks GMrg GInit
  have GAnd := ok_And (P := P) (w := w) (base := base) T F10 GChk GMarks GInit
  have GEq := ok_Eq (P := P) (w := w) (base := base) T F11 
  have GPot := ok_Pot (P := P) (w := w) (base := base) T F13 
  have GTake := ok_Take (P := P) (w := w) (base := base) T F14 
  have GOf := ok_Of (P := P) (w := w) (base := base) T F15 GTake
  have GCells := ok_Cells (P := P) (w := w) (base := base) T F16 
  have GMerged := ok_Merged (P := P) (w := w) (base := base) T F17 
  have GLMarks := ok_LMarks (P := P) (w := w) (base := base) T F18 
  have GDrawn := ok_Drawn (P := P) (w := w) (base := base) T F20 GOf
  have GJoined := ok_Joined (P := P) (w := w) (base := base) T F21 GMerged GLMarks
  have GCommon := ok_Common (P := P) (w := w) (base := base) T F22 
  have GLieW := ok_LieW (P := P) (w := w) (base := base) T F23 
  have GW := ok_WInit (mg := mg) (P := P) (w := w) (base := base) F12
  have XC := ok_ChkX T F3 GWires GW
  have XWithin := ok_WithinX T F7 XC
  have XOr := ok_OrX T F9 XC
  have XAnd := ok_AndX T F10 XC
  have bP : Binds K _ ["_law_mine", "_law_its"] [] := FunD.bindsN F24 fun _ _ _ _ _ _ us hl => match us, hl with | [_, _], _ => rfl
  have bA : Binds K _ ["_law_mine", "_law_its"] [] := FunD.bindsN F25 fun _ _ _ _ _ _ us hl => match us, hl with | [_, _], _ => rfl
  have bR : Binds K _ ["_law_pot_here"] [] := FunD.bindsN F26 fun _ _ _ _ _ _ us hl => match us, hl with | [_], _ => rfl
  have GPair : PrG P w K mg base 7 (ga K "_law_is_pair_right") ["_law_mine", "_law_its"] (spPair K) := ⟨⟨_, ok_Pair T F24 GInit GMarks GOr GAnd GEq GWithin GJoined GCommon GLieW, bP⟩, FunD.kp F24⟩
  have GApart : PrG P w K mg base 7 (ga K "_law_are_apart_right") ["_law_mine", "_law_its"] (spApart K [((cA K).2, qA)]) := ⟨⟨_, ok_Apart T F25 (code_of F25) TB F19 GInit GMarks GEq XOr XAnd XWithin, bA⟩, FunD.kp F25⟩
  have GRight : PrG P w K mg base 8 (ga K "_law_right") ["_law_pot_here"] (spRight K [((cA K).2, qA)]) := ⟨⟨_, ok_Right T F26 GTake GDrawn GCommon GPair GApart, bR⟩, FunD.kp F26⟩
  exact ok_Law T F27 GCells GPot GRight
end K02
open PySem PySem.W PySem.Calls PyProof.Rows
theorem PySem.Challenge.cw_landingwires_k02_standings_put_together_holds : PySem.Challenge.rw_landingwires_k02_standings_put_together.Holds := by
  w_on; o_law
  refine HandSHeadRun.head_any (r := K02.R) (q := view K02.R.prog [29]) (H := K02.hk) (ob := K02.ob) (M := 8000) (loose := K02.loose) (d := HandSHeadRun.topDef K02.R.prog 29) (kwd := []) K02.ob_eq
    (by kernel_rfl) (fun s => by kernel_rfl) K02.run (by kernel_rfl) (by kernel_rfl) (by kernel_rfl) (by rfl) (by first | assumption | decide +kernel) (by decide +kernel) ⟨rfl, rfl, rfl, rfl, rfl, by decide +kernel⟩ ?hw ?hc
  case hw => w_witness2
  case hc =>
    refine Lw.walkGT (l := PySem.Challenge.rw_landingwires_k02_standings_put_together) (n := 63) (k := 9) (x := "_law_script") (CX := L2.CX0) rfl (by decide) (by kernel_rfl) ⟨rfl, by decide, by decide⟩ ?F (fun _ _ _ _ z => z)
    intro w mg fa h Y G hmg0
    obtain ⟨K, KX, c⟩ := Y
    have hmg : mg ("law" : PySem.Str) = some (.ref fa) := by
      have e : (HandSHeadRun.topDef K02.R.prog 29).name = ("law" : PySem.Str) := by kernel_rfl
      rw [← e]
      exact hmg0
    obtain ⟨fd, hb, hF⟩ := K02.facts (P := PySem.Challenge.rw_landingwires_k02_standings_put_together.prog) (w := w) KX G hmg c.c
    have mm : (("_law_are_apart_right", none) : He.Defn) ∈ K02.tf := List.mem_singleton.mpr rfl
    have one : ∀ {Z : Addr × Addr → Prop}, Z (K02.cA K) → ∀ p ∈ [K02.cA K], Z p := fun z p hp => by rw [List.mem_singleton.mp hp]; exact z
    refine ⟨K, [K02.cA K], fd, K02.spLaw K [((K02.cA K).2, K02.qA)], KX, one (c.empty _ mm), one (c.out _ mm), one (c.hd _ mm), hb, fun H a ns hl hT hS => ⟨a, ns, rfl, hS, fun p hp => ?_, fun _ => rfl⟩, fun base k1 k2 TB => hF base k1 k2 (TB _ (List.mem_singleton.mpr rfl))⟩
    rw [List.mem_singleton.mp hp]
    exact ⟨_, hT _ (List.mem_singleton.mpr rfl), trivial, fun _ _ z => by cases z⟩
#print axioms PySem.Challenge.cw_landingwires_k02_standings_put_together_holds
