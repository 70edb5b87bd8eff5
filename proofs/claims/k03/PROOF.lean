import PyProof.Rows.All
import Wide.All
import OpenK.AllK
import Wide.FinOn
import KE.KStateDown
import KE.KExcIs
import HandS.ForMost
import HandS.ForExc
import HandS.ExcInit
import HandS.IsInst
import HandS.Flow
import HandS.Defaults
import HandS.Head0
import HandS.Head1
import HandS.Head2
import HandS.HeadEnd
import HandS.HeadHook1
import HandS.HeadHook2
import HandS.ExcValue
import HandS.ExcBuiltin
import HandS.Property
import HandS.SlotsOwn
import KE.GoesEnum
import HandS.Walk
import KE.KDictZip
import HandS.Zip
import HandS.OwnIter
import HandS.SetFor
import HandS.Strs
import HandS.Wide
import HandS.TupAny
import HandS.Deep
import HandS.HeadNt
import HandS.Conv
import PySem.Challenge.RW_landingwires_k03_whole_standings_least_a
set_option Elab.async false
set_option linter.all false
set_option maxRecDepth 100000
set_option maxHeartbeats 4000000
/-! Defs that show values (repr): the promise of a def where nothing is being shown around the call. -/
namespace Lw
open PySem PySem.Spec PyProof.Rows L2
/-- a def's promise, wherever no repr runs around it -/
structure FnG (P : Program) (w : World) (K : PySem.W.Frag) (mg : Str → Option Value) (base : Heap) (CX : CXT) (k : Nat) (f : Addr) (fd : FuncData) (ps : List Str) (sp : Sp) : Prop where
  len : ∀ vs H Q E, sp vs H Q E → vs.length = ps.length
  run : ∀ (A : Around) (outer : List Env) (s : Shared) (H : Hp) (args : Args) (us : List Value) (vs : List V) (Q : VK) (E : XK), A.guards = some [] → Room k A →
    Env0 P w K mg base A outer s H → BindsTo s fd args (ps.zip us) → Vals vs us → sp vs H Q E → codeAny (model P w) A (.call (.ref f) args) (CR CX outer P w H s Q E) s
section
variable {P : Program} {w : World} {K : PySem.W.Frag} {mg : Str → Option Value} {base : Heap} {CX : CXT} {k : Nat} {f : Addr} {fd : FuncData} {ps : List Str} {sp : Sp}
theorem FnG.of (F : FnOk P w K mg base CX k f fd ps sp) : FnG P w K mg base CX k f fd ps sp :=
  ⟨F.len, fun A outer s H args us vs Q E _ => F.run A outer s H args us vs Q E⟩
theorem FnG.mono {j : Nat} (F : FnG P w K mg base CX j f fd ps sp) (h : j ≤ k) : FnG P w K mg base CX k f fd ps sp :=
  ⟨F.len, fun A outer s H args us vs Q E hg hr => F.run A outer s H args us vs Q E hg (hr.mono h)⟩
/-- a def of the text by its body, guards known -/
theorem fnG_of {name qual : Str} {params : Arguments} {body : List Stmt} {scope : Scope} {dV kV doc pm cdv ct oc : Value} {an od : Option Addr} {osl : Array (Option Value)} {N : List Str}
    (lk : K.lookup f = some ⟨oc, od, .func (PySem.W.fnOf name qual params body scope dV kV doc pm an cdv ct), osl⟩) (hcd : PySem.W.codeIn K cdv qual = true) (S : FnScope N ps scope)
    (len : ∀ vs H Q E, sp vs H Q E → vs.length = ps.length)
    (hb : ∀ (A : Around) (outer : List Env) (s : Shared) (H : Hp) (vs : List V) (Q : VK) (E : XK), A.guards = some [] → Room k (A.deeper (envOfC qual scope s.heap.objs.size f cdv)) → sp vs H Q E →
      ∃ t, PSs (cxOf CX P w K mg base N qual scope f cdv A outer s H E) body t ∧ t { nx := fun _ H' => Q .non H', rt := Q } (start N vs) H) :
    FnG P w K mg base CX (k + 1) f (PySem.W.fnOf name qual params body scope dV kV doc pm an cdv ct) ps sp := by
  constructor
  · exact len
  intro A outer s H args us vs Q E hg hr e0 hbind rv want
  have old : ∀ b o, base.get? b = some o → s.heap.get? b = some o := fun b o e => (e0.bs b o e).1
  have kin : K.In s.heap := e0.mod.kin.keeps old
  have kinds : ∀ y ∈ ps.zip us, scope.names.lookup y.1 = some .local ∨ (scope.names.lookup y.1 = some .cell ∧ ((cellsFrom (s.heap.objs.size + 1) scope.names []).lookup y.1).isSome = true) := by
    rintro ⟨n, v⟩ hy
    cases S.par n (List.of_mem_zip hy).1 with
    | inl q => exact .inl q
    | inr q => exact .inr ⟨q, PySem.W.cellsFrom_some _ _ _ (.inl q)⟩
  refine codeAny_call_function hr.depth (kin _ _ lk) rfl S.co S.gen rfl (PySem.W.codeRec_of kin hcd) (hbind _ _ _ _ (wpAny_newFunctionEnv_cells S.kind kinds ?_))
  rintro env rfl s1 x
  obtain ⟨t, ht, hq⟩ := hb A outer s H vs Q E hg (hr.deeper _) want
  refine ⟨(e0.mod.nolimit.keeps old).keeps x.toInCall.keep, codeAny_func ?_⟩
  have I := inv_start (CX := CX) (N := N) (E := E) S hr.hd e0 (len _ _ _ _ want) rv x
  refine wpAny_mono (ht.run [] s1 (start N vs) H _ I hq) (fun fl s' hs => ?_) fun _ _ z => z
  cases fl with
  | ret u =>
    obtain ⟨v, σ', H', J, r, q⟩ := hs
    exact ⟨v, H', J.os, J.bare, J.base, J.hok, r, q⟩
  | next =>
    obtain ⟨σ', H', J, q⟩ := hs
    exact ⟨V.non, H', J.os, J.bare, J.base, J.hok, rfl, q⟩
  | brk =>
    obtain ⟨_, _, _, q⟩ := hs
    cases q
  | cont =>
    obtain ⟨_, _, _, q⟩ := hs
    cases q
theorem okG {x qual : Str} {params : Arguments} {body : List Stmt} {scope : Scope} {N : List Str} (F : FunD K x qual params body scope [] [] f fd) (S : FnScope N ps scope) (len : ∀ vs H Q E, sp vs H Q E → vs.length = ps.length)
    (hb : ∀ (cdv : Value) (A : Around) (outer : List Env) (s : Shared) (H : Hp) (vs : List V) (Q : VK) (E : XK), A.guards = some [] → Room k (A.deeper (envOfC qual scope s.heap.objs.size f cdv)) → sp vs H Q E →
      ∃ t, PSs (cxOf CX P w K mg base N qual scope f cdv A outer s H E) body t ∧ t { nx := fun _ H' => Q .non H', rt := Q } (start N vs) H) : FnG P w K mg base CX (k + 1) f fd ps sp := by
  obtain ⟨oc, od, dV, kV, doc, pm, an, cdv, ct, osl, rfl, lk, hcd, _, _⟩ := F.ex
  exact fnG_of lk hcd S len fun A outer s H vs Q E => hb cdv A outer s H vs Q E
end
section
variable {X : Cx} {CX : CXT} {k : Nat} {f : Addr} {fd : FuncData} {ps : List Str} {sp : Sp} {dvs : List V} {ds : List Value} {E : XK} {x : Str} {p pos : Pos} {e : Expr} {es : List Expr} {t : TA}
theorem runG {pins : List (Addr × Obj)} {σ : L2.St} {H : Hp} {s : Shared} {Q : VK} {us : List Value} {vs : List V} (F : FnG X.prog X.w X.K X.mg X.base CX k f fd ps sp) (hg : X.A.guards = some []) (hr : Room k X.A) (hb : Binds X.K fd ps ds) (hd : Vals dvs ds)
    (hx : Passes CX X E) (I : Inv X pins σ H s) (r : Vals vs us) (h : sp (vs ++ dvs) H Q E) : wpAny (model X.prog X.w) X.A (call (.ref f) us) (EP X pins σ Q) X.xe s := by
  have r2 := r.append hd
  have hl : (us ++ ds).length = ps.length := r2.length.symm.trans (F.len _ _ _ _ h)
  refine wpAny_call (codeAny_mono (F.run X.A X.stack s H ⟨us, []⟩ _ _ Q E hg hr I.env0 (hb s us I.kIn hl) r2 h) ?_)
  intro res s' hq
  match res, hq with
  | .error er, hq => exact hx pins σ H s er s' I hq
  | .ok (.ret u), hq => exact I.after hq
  | .ok .next, hq => exact hq.elim
  | .ok .brk, hq => exact hq.elim
  | .ok .cont, hq => exact hq.elim
/-- f(e, ..) -/
theorem pe_callG (F : FnG X.prog X.w X.K X.mg X.base CX k f fd ps sp) (hgd : X.A.guards = some []) (hr : Room k X.A) (hg : Gl X x) (hm : X.mg x = some (.ref f)) (hk : PySem.W.keepIn X.K (.ref f) = true) (hb : Binds X.K fd ps ds) (hd : Vals dvs ds) (hx : Passes CX X E)
    (ha : PA X (e :: es) t) (hdb : (x == ("__debug__" : Str)) = false := by decide) (he : starEach (e :: es) X.env = (false, eval e X.env) :: starEach es X.env := by rfl) (hpl : (backTo pos (starEach es X.env)).any (·.1) = false := by rfl) :
    PE X (.Call (.Name x p) (e :: es) [] pos) (tCall sp dvs E t) :=
  ⟨fun pins s σ H Q I h => wpAny_Call_Name_kw (ld_glob I hg hm (PySem.W.callWith_K (h₀ := X.base) I.ok.mod.kin hk
    (thn (ha.run pos pins s σ H _ I h) fun us s1 ⟨vs, H1, I1, r, q⟩ => ⟨I1.kIn, runG F hgd hr hb hd hx I1 r q⟩) he hpl) hdb)⟩
end
/-! ### repr -/
/-- data: none, bools, ints, texts, lists, tuples, dicts of int and text keys -/
def keyD : Key → PyData
  | .inl i => .int i
  | .inr x => .str x
/-- data without dicts, or a dict of flat values -/
inductive Flat : V → PyData → Prop
  | non : Flat .non .none
  | bl (b : Bool) : Flat (.bl b) (.bool b)
  | int (i : Int) : Flat (.int i) (.int i)
  | str (x : Str) : Flat (.str x) (.str x)
inductive Dr (K : PySem.W.Frag) (H : Hp) : V → PyData → Prop
  | dp {v : V} {d : PyData} : Dp K H v d → Dr K H v d
  | dic {a : Addr} {kvs : List (Key × V)} {ds : List PyData} : H a = some (.dK kvs) → Paired Flat (kvs.map (·.2)) ds → Dr K H (.ref a) (.dict ((kvs.map fun q => keyD q.1).zip ds))

mutual
theorem dp_noDict {K : PySem.W.Frag} {H : Hp} : ∀ (d : PyData) (v : V), Dp K H v d → d.hasDict = false
  | .none, _, _ => rfl
  | .bool _, _, _ => rfl
  | .int _, _, _ => rfl
  | .str _, _, _ => rfl
  | .list ds, _, h => by
    cases h with
    | lst _ ha =>
      rw [PyData.hasDict]
      exact dpAll_noDict ds _ ha
  | .tuple ds, _, h => by
    cases h with
    | tup _ ha =>
      rw [PyData.hasDict]
      exact dpAll_noDict ds _ ha
  | .dict _, _, h => by cases h
theorem dpAll_noDict {K : PySem.W.Frag} {H : Hp} : ∀ (ds : List PyData) (vs : List V), DpAll K H vs ds → PyData.hasDictAll ds = false
  | [], _, _ => rfl
  | d :: ds, _, h => by
    cases h with
    | cons h1 h2 =>
      rw [PyData.hasDictAll, dp_noDict d _ h1, dpAll_noDict ds _ h2]
      rfl
end
theorem reads_keys {P : Program} {w : World} {h : Heap} {es : List DictEntry} {vs : List (Key × Value)} (p : Pairs (mixKind P w) es vs) : ReadsAll h (es.map (·.key)) (vs.map fun q => keyD q.1) [] := by
  induction p with
  | nil => exact .nil
  | @cons e kv es kvs h1 h2 _ ih =>
    have one : Reads h e.key (keyD kv.1) [] := by
      rcases keyIs_shape (show keyIs kv.1 e.key = true from h1) with ⟨i, t, e1, e2⟩ | ⟨x, t, e1, e2⟩
      · rw [e1, e2]
        exact Reads.int i t
      · rw [e1, e2]
        exact Reads.str x t
    exact ReadsAll.cons one ih
theorem reads_flat {h : Heap} : ∀ {ws : List V} {ds : List PyData} {us : List Value}, Paired Flat ws ds → Vals ws us → ReadsAll h us ds []
  | _, _, _, .nil, .nil => .nil
  | _, _, _, .cons f p, .cons r q => by
    refine ReadsAll.cons (as := []) ?_ (reads_flat p q)
    cases f with
    | non => cases r; exact Reads.none
    | bl b => cases r; exact Reads.bool b
    | int i => obtain ⟨t, rfl⟩ := r; exact Reads.int i t
    | str x => obtain ⟨t, rfl⟩ := r; exact Reads.str x t
theorem kv_keys : ∀ {kvs : List (Key × V)} {vs : List (Key × Value)}, KV kvs vs → kvs.map (fun q => keyD q.1) = vs.map fun q => keyD q.1
  | _, _, .nil => rfl
  | _, _, .cons h t => by
    rw [List.map_cons, List.map_cons, kv_keys t, h.1]
theorem kv_vals : ∀ {kvs : List (Key × V)} {vs : List (Key × Value)}, KV kvs vs → Vals (kvs.map (·.2)) (vs.map (·.2))
  | _, _, .nil => .nil
  | _, _, .cons h t => .cons h.2 (kv_vals t)
theorem pairs_vals {P : Program} {w : World} {es : List DictEntry} {vs : List (Key × Value)} (p : Pairs (mixKind P w) es vs) : es.map (·.val) = vs.map (·.2) := by
  induction p with
  | nil => rfl
  | cons _ h2 _ ih => rw [List.map_cons, List.map_cons, ih, h2]
theorem paired_len {α β : Type} {F : α → β → Prop} : ∀ {l : List α} {m : List β}, Paired F l m → l.length = m.length
  | _, _, .nil => rfl
  | _, _, .cons _ t => by rw [List.length_cons, List.length_cons, paired_len t]
section
variable {X : Cx} {pins : List (Addr × Obj)} {σ : L2.St} {H : Hp} {s : Shared}
theorem Dr.reads {v : V} {d : PyData} {u : Value} (I : Inv X pins σ H s) (h : Dr X.K H v d) (r : RelV v u) : ∃ as, Reads s.heap u d as ∧ (d.hasDict = true → sysModules ∉ as) := by
  cases h with
  | dp h =>
    obtain ⟨as, q⟩ := Dp.reads I d v u h r
    refine ⟨as, q, fun z => ?_⟩
    rw [dp_noDict d v h] at z
    cases z
  | @dic a kvs ds ea f =>
    cases (show u = Value.ref a from r)
    obtain ⟨_, ns, vs, kv, o, es, ep, ho, ex, hd, _, pr, _⟩ := (show ObjOk X.prog X.w H s.heap a (.dK kvs) from I.hok a _ ea)
    have l1 : (kvs.map fun q => keyD q.1).length = ds.length := by
      have e := paired_len f
      rw [List.length_map] at e ⊢
      exact e
    refine ⟨_, Reads.dict (as := []) (bs := []) ho ex.1 hd ?_ ?_, fun _ z => ?_⟩
    · rw [List.map_fst_zip (Nat.le_of_eq l1), kv_keys kv]
      exact reads_keys pr
    · rw [List.map_snd_zip (Nat.le_of_eq l1.symm), pairs_vals pr]
      exact reads_flat f (kv_vals kv)
    · rcases List.mem_cons.mp (show sysModules ∈ a :: ([] : List Addr) from z) with e | e
      · rw [← e] at ns
        exact absurd (beq_self_eq_true sysModules) (by rw [ns]; exact Bool.false_ne_true)
      · cases e
end
/-- what repr asks of the data: ints below the digits' line, a text that fits, not too deep -/
structure Shows (d : PyData) (x : Str) : Prop where
  eq : d.shown = x
  sh : d.showable = true
  len : d.shown.length ≤ sizeLine
  dep : d.depth ≤ 60
def rRepr (K : PySem.W.Frag) : List V → Hp → VK → Prop := fun xs H Q => ∃ v d x, xs = [v] ∧ Dr K H v d ∧ Shows d x ∧ Q (.str x) H
theorem call_repr {X : Cx} (hg : X.A.guards = some []) (hu : X.A.units + 61 < cLine) : CallR X (.builtin "repr") (rRepr X.K) := by
  intro pins s σ H xs us Q I r h
  obtain ⟨v, d, x, rfl, hd, ⟨rfl, h1, h2, h3⟩, q⟩ := h
  obtain ⟨u, rfl, ru⟩ := r.one
  obtain ⟨as, rd, hsys⟩ := hd.reads I ru
  cases rd with
  | none => exact PySem.P.repr_of_none ⟨.str _, H, I.tok _, ⟨_, rfl⟩, q⟩
  | bool b => exact PySem.P.repr_of_bool ⟨.str _, H, I.tok _, ⟨_, rfl⟩, q⟩
  | int i t => exact PySem.P.repr_of_int (by simpa [PyData.showable] using h1) ⟨.str _, H, I.tok _, ⟨_, rfl⟩, q⟩
  | str y t => exact PySem.P.repr_of_str ⟨.str _, H, I.tok _, ⟨_, rfl⟩, q⟩ h2
  | list a1 a2 a3 a4 => exact repr_of_reads' (Reads.list a1 a2 a3 a4) h1 hsys hg (by omega) (fun _ _ z => z) (fun h' t tk k => ⟨.str _, H, I.kept (t' := tk) k, ⟨_, rfl⟩, q⟩) h2
  | tuple a1 a2 a3 a4 => exact repr_of_reads' (Reads.tuple a1 a2 a3 a4) h1 hsys hg (by omega) (fun _ _ z => z) (fun h' t tk k => ⟨.str _, H, I.kept (t' := tk) k, ⟨_, rfl⟩, q⟩) h2
  | dict a1 a2 a3 a4 a5 => exact repr_of_reads' (Reads.dict a1 a2 a3 a4 a5) h1 hsys hg (by omega) (fun _ _ z => z) (fun h' t tk k => ⟨.str _, H, I.kept (t' := tk) k, ⟨_, rfl⟩, q⟩) h2
end Lw

set_option Elab.async false
set_option linter.all false
set_option maxRecDepth 100000
set_option maxHeartbeats 4000000
/-! Own exceptions with one field, made, held and looked at as values. -/
namespace Lw
open PySem PySem.Spec PyProof.Rows L2
/-- the class at C stands over ValueError, with a dict, without a __del__ -/
def oexB (K : PySem.W.Frag) (C : Addr) : Bool := match K.lookup C with
  | some ⟨.type "type", _, .cls cd, sl⟩ =>
    (match cd.mro, sl.toList with
    | .ref D :: bm, [_, _, _, _, some (.builtin n), _] => (D == C && n == "ValueError.__new__") && ((!cd.hasDel && cd.hasDict) && PySem.HandSPX.refsVE bm)
    | _, _ => false)
  | _ => false
theorem oexB_ok {K : PySem.W.Frag} {C : Addr} (h : oexB K C = true) :
    ∃ nm q N bs bm sn sub ab col dd k0 k1 k2 k3 k5, K.lookup C = some (excClassObj nm q C N bs bm true sn sub ab col dd k0 k1 k2 k3 k5 "ValueError.__new__") ∧ PySem.HandSPX.refsVE bm = true := by
  unfold oexB at h
  split at h
  case h_2 => cases h
  case h_1 dd cd sl ho =>
    split at h
    case h_2 => cases h
    case h_1 D bm k0 k1 k2 k3 n k5 hm hs =>
      obtain ⟨nm, bs, mro, ns, qn, hd, sn, sub, ab, col, del⟩ := cd
      dsimp only at hm h
      simp only [Bool.and_eq_true, beq_iff_eq, Bool.not_eq_true'] at h
      obtain ⟨⟨rfl, rfl⟩, ⟨rfl, rfl⟩, hr⟩ := h
      subst hm
      have e : sl = #[k0, k1, k2, k3, some (.builtin "ValueError.__new__"), k5] := by
        rw [← hs]
      subst e
      exact ⟨nm, qn, ns, bs, bm, sn, sub, ab, col, dd, k0, k1, k2, k3, k5, ho, hr⟩
/-- what is asked of the class of an exception that is held -/
structure XcC (K : PySem.W.Frag) (C : Addr) : Prop where
  ox : OexC K C
  ic : (PySem.W.clsIn K C).isSome = true
  hd : PySem.W.hasDictIn K C = true
  ga : PySem.W.findIn K (.ref C) "__getattribute__" = some (some (.builtin "BaseException.__getattribute__"))
  gg : PySem.W.findIn K (.ref C) "__getattr__" = some none
  nv : PySem.W.findIn K (.ref C) "value" = some none
  ca : PySem.W.findIn K (.ref C) "__class__" = some (some (.builtin "object.__class__"))
  cn : PySem.W.specialIn K (.builtin "object.__class__") "__get__" = some (some (.builtin "getset_descriptor.__get__"))
  ct : PySem.W.takesIn K (.builtin "object.__class__") = some true
  cm : PySem.W.mroIn K C (.type "object") = some true
def xcB (K : PySem.W.Frag) (C : Addr) : Bool := oexB K C && (He.eqO (PySem.W.findIn K (.ref C) "__setattr__") (some (some (.builtin "object.__setattr__"))) && (decide (PySem.W.subIn K (.ref C) (.type "BaseException") = some true) &&
  (decide (PySem.W.typeIn K (.ref C) = some (.type "type")) && (PySem.W.keepIn K (.ref C) && ((PySem.W.clsIn K C).isSome && (PySem.W.hasDictIn K C && (He.eqO (PySem.W.findIn K (.ref C) "__getattribute__") (some (some (.builtin "BaseException.__getattribute__"))) &&
  (He.eqO (PySem.W.findIn K (.ref C) "__getattr__") (some none) && (He.eqO (PySem.W.findIn K (.ref C) "value") (some none) && (He.eqO (PySem.W.findIn K (.ref C) "__class__") (some (some (.builtin "object.__class__"))) &&
  (He.eqO (PySem.W.specialIn K (.builtin "object.__class__") "__get__") (some (some (.builtin "getset_descriptor.__get__"))) && (decide (PySem.W.takesIn K (.builtin "object.__class__") = some true) && decide (PySem.W.mroIn K C (.type "object") = some true)))))))))))))
theorem xcB_ok {K : PySem.W.Frag} {C : Addr} (h : xcB K C = true) : XcC K C := by
  unfold xcB at h
  simp only [Bool.and_eq_true, decide_eq_true_eq] at h
  obtain ⟨h1, h2, h3, h4, h5, h6, h7, h8, h9, h10, h11, h12, h13, h14⟩ := h
  exact ⟨⟨oexB_ok h1, He.eqO_ok h2, h3, h4, h5⟩, h6, h7, He.eqO_ok h8, He.eqO_ok h9, He.eqO_ok h10, He.eqO_ok h11, He.eqO_ok h12, h13, h14⟩
/-- an exception of the class at C stands at a, its value v -/
def ErrAt (H : Hp) (a C : Addr) (v : V) : Prop := ∃ d, H a = some (exo a C (some d)) ∧ H d = some (exd d [("value", v)])
theorem ErrAt.same {H H' : Hp} {a C : Addr} {v : V} (h : ErrAt H a C v) (s : Same H H') : ErrAt H' a C v := by
  obtain ⟨d, h1, h2⟩ := h
  exact ⟨d, s _ _ h1, s _ _ h2⟩
section
variable {X : Cx} {pins : List (Addr × Obj)} {σ : L2.St} {H : Hp} {s : Shared} {a C : Addr} {v : V}
theorem err_inst (I : Inv X pins σ H s) (h : ErrAt H a C v) : ∃ ox od, PySem.W.InstAt s.heap a ox C (some od) ∧ ∃ u, PySem.W.lookIn "value" od = some (some u) ∧ RelV v u := by
  obtain ⟨d, h1, h2⟩ := h
  obtain ⟨t, ho⟩ := exo_at I.hok h1
  obtain ⟨m, hns, r⟩ := exd_at I.hok h2
  obtain ⟨od, hd, hl⟩ := lookIn_ns hns
  have l : List.lookup ("value" : Str) [(("value" : Str), v)] = some v := by simp [List.lookup]
  obtain ⟨u, hu, ru⟩ := RelO.some_of (v := v) (o := m "value") (by rw [← l]; exact r "value")
  exact ⟨_, od, ⟨ho, rfl, rfl, hd⟩, u, by rw [hl, hu], ru⟩
end
/-- isinstance(e, C) -/
def rIsX (K : PySem.W.Frag) : List V → Hp → VK → Prop := fun xs H Q => ∃ (a C : Addr) (v c : V) (u : Value) (b : Bool), xs = [.ref a, c] ∧ ErrAt H a C v ∧ XcC K C ∧ ClsV c u ∧ PySem.W.kitOne K (.ref C) u = some b ∧ Q (.bl b) H
theorem call_isX {X : Cx} : CallR X (.builtin "isinstance") (rIsX X.K) := by
  intro pins s σ H xs us Q I r h
  obtain ⟨a, C, v, c, u, b, rfl, he, T, k, e, q⟩ := h
  obtain ⟨u1, u2, rfl, r1, r2⟩ := vals2 r
  cases (show u1 = Value.ref a from r1)
  have e2 := k.eq r2
  subst e2
  obtain ⟨ox, od, J, _⟩ := err_inst I he
  exact PySem.W.kia_one (PySem.W.kitx_exc T.ic T.ga T.gg T.ox.exC T.ca T.cn T.ct T.cm) I.kIn J e (fun z => nomatch z) fun tk => ⟨.bl b, H, I.tok tk, rfl, q⟩
/-- e.value -/
def tXv (K : PySem.W.Frag) (te : TE) : TE := fun σ H Q => te σ H fun x H1 => ∃ (a C : Addr) (v : V), x = .ref a ∧ ErrAt H1 a C v ∧ XcC K C ∧ Q v H1
theorem pe_xv {X : Cx} {e : Expr} {te : TE} {pos : Pos} (he : PE X e te) (hb : attributeBase e "value" X.env (eval e X.env) = eval e X.env := by rfl) : PE X (.Attribute e "value" pos) (tXv X.K te) := by
  refine ⟨fun pins s σ H Q I h => attr_of hb (thn (he.run pins s σ H _ I h) fun u s1 hh => ?_)⟩
  obtain ⟨x, H1, I1, rx, a, C, v, rfl, ea, T, q⟩ := hh
  cases (show u = Value.ref a from rx)
  obtain ⟨ox, od, J, z, hz, rz⟩ := err_inst I1 ea
  exact PySem.HandSPX.exc_get I1.kIn J T.ga T.gg T.ox.exC (PySem.W.findObj_own T.hd T.nv rfl hz) (handed_of rz) ⟨v, H1, I1.tok _, rz, q⟩
/-- C(e, ..) as a value, C's __init__ keeping sp -/
def tMkV (C : Addr) (sp : Sp) (dvs : List V) (E : XK) (ta : TA) : TE := fun σ H Q => ta σ H fun vs H1 => vs.length ≤ 1000 ∧ ∀ a, H1 a = none → sp (.ref a :: (vs ++ dvs)) (upd H1 a (exo a C none)) (fun v H2 => v = .non ∧ Q (.ref a) H2) E
theorem pe_mkV {X : Cx} {e : Expr} {es : List Expr} {ta : TA} {p pos : Pos} {CX : CXT} {x : Str} {C fI : Addr} {k : Nat} {fd : FuncData} {ps : List Str} {sp : Sp} {ds : List Value} {dvs : List V} {E : XK} (T : OexC X.K C)
    (iC : PySem.W.findIn X.K (.ref C) "__init__" = some (some (.ref fI))) (tI : PySem.W.typeIn X.K (.ref fI) = some (.type "function")) (F1 : FnOk X.prog X.w X.K X.mg X.base CX k fI fd ps sp) (hr : Room (k + 1) X.A) (hb : Binds X.K fd ps ds)
    (hd : Vals dvs ds) (hx : Passes CX X E) (hg : Gl X x) (hm : X.mg x = some (.ref C)) (ha : PA X (e :: es) ta)
    (hdb : (x == ("__debug__" : Str)) = false := by decide) (he : starEach (e :: es) X.env = (false, eval e X.env) :: starEach es X.env := by rfl) (hpl : (backTo pos (starEach es X.env)).any (·.1) = false := by rfl) :
    PE X (.Call (.Name x p) (e :: es) [] pos) (tMkV C sp dvs E ta) := by
  refine ⟨fun pins s σ H Q I h => wpAny_Call_Name_kw (ld_glob I hg hm (PySem.W.callWith_K (h₀ := X.base) I.ok.mod.kin T.kC (thn (ha.run pos pins s σ H _ I h) fun us s1 hh => ?_) he hpl) hdb)⟩
  obtain ⟨vs, H1, I1, r1, hz, q1⟩ := hh
  refine ⟨I1.kIn, ?_⟩
  obtain ⟨nm, q, N, bs, bm, sn, sub, ab, col, dd, k0, k1, k2, k3, k5, hC, hbm⟩ := T.cls
  obtain ⟨hp, g, dr, tk, os⟩ := s1
  show wpAny _ _ (call (.ref C) us) _ _ _
  have big : hp.objs.size ≤ hp.objs.size + 1 := Nat.le_succ _
  have hq := q1 (hp.objs.size + 1) (I1.hok.fresh big)
  have at_ : ((hp.push (PySem.W.kdv_tup us)).push (PySem.HandSPX.excO C hp.objs.size)).get? (hp.objs.size + 1) = some (PySem.HandSPX.excO C hp.objs.size) := by heap_get
  have I2 : Inv X pins σ (upd H1 (hp.objs.size + 1) (exo (hp.objs.size + 1) C none)) ⟨(hp.push (PySem.W.kdv_tup us)).push (PySem.HandSPX.excO C hp.objs.size), g, dr, tk, os⟩ :=
    I1.laid (t' := tk) (fun b o z => Heap.get?_push_of_some _ (Heap.get?_push_of_some _ z)) big (exo_ok at_)
  have r2 : Vals (V.ref (hp.objs.size + 1) :: (vs ++ dvs)) (Value.ref (hp.objs.size + 1) :: us ++ ds) := Paired.cons rfl (r1.append hd)
  have hl : (Value.ref (hp.objs.size + 1) :: us ++ ds).length = ps.length := r2.length.symm.trans (F1.len _ _ _ _ hq)
  have hus : us.length ≤ sizeLine := by
    have e1 := Paired.length r1
    rw [sizeLine_eq]
    omega
  refine wpAny_call (PySem.HandSPX.call_own F.excBase_ValueError (fun Y => PySem.HandSPX.refsVE_contains Y bm hbm) (I1.kIn _ _ hC) (PySem.W.looks_findIn I1.kIn iC) (fun self => PySem.W.bind_fn I1.kIn self tI) hus ?_)
  refine codeAny_mono (F1.run _ X.stack _ _ ⟨Value.ref (hp.objs.size + 1) :: us, []⟩ _ _ _ E (hr.make C us []) (I2.env0.make C us []) (hb _ (Value.ref (hp.objs.size + 1) :: us) I2.kIn hl) r2 hq) fun res s' hs => ?_
  match res, hs with
  | .error er, hs => exact hx pins σ _ _ er s' I2 hs
  | .ok (.ret u), hs =>
    obtain ⟨v, H3, I3, rv, rfl, q3⟩ := I2.after hs
    exact ⟨rv, ⟨.ref (hp.objs.size + 1), H3, I3, rfl, q3⟩⟩
  | .ok .next, hs => exact hs.elim
  | .ok .brk, hs => exact hs.elim
  | .ok .cont, hs => exact hs.elim
/-- ValueError(e) as a value -/
theorem pe_veV {X : Cx} {x : Str} {e : Expr} {t : TA} {p pos : Pos} (hg : Gl X x) (hm : X.mg x = none) (hv : bootBuiltins x = some (.type "ValueError")) (ha : PA X [e] t) (hn : x ≠ "__name__" := by decide) (hdb : (x == ("__debug__" : Str)) = false := by decide)
    (he : starEach [e] X.env = (false, eval e X.env) :: starEach [] X.env := by rfl) (hpl : (backTo pos (starEach [] X.env)).any (·.1) = false := by rfl) :
    PE X (.Call (.Name x p) [e] [] pos) (fun σ H Q => t σ H fun vs H1 => vs.length ≤ sizeLine ∧ ∀ a, H1 a = none → Q (.ref a) (upd H1 a (ExO (.type "ValueError") a))) := by
  refine ⟨fun pins s σ H Q J h => wpAny_Call_Name_kw (ld_blt J hg hm hv (PyProof.Rows.callWith_type1 (thn (ha.run pos pins s σ H _ J h) fun us s1 hh => ?_) he hpl) hn hdb)⟩
  obtain ⟨vs, H1, I1, r1, q0, q1⟩ := hh
  obtain ⟨hp1, g1, d1, tk1, os1⟩ := s1
  refine wpAny_call_exc exb_ValueError.call (fun h' a mk => ?_) (Nat.le_trans (Nat.le_of_eq r1.length.symm) q0)
  have m2 := PySem.Heap.MadeExc.of mk
  obtain ⟨t0, ht, _, _⟩ := m2.there
  have hn := I1.hok.gone m2.new
  exact ⟨.ref a, _, I1.laidN m2.keeps m2.new hn (exO_ok ht ⟨rfl, rfl⟩ rfl rfl rfl (show 4 < 6 by decide)), rfl, q1 a hn⟩
/-- isinstance(e, C), e such a ValueError -/
def rIsV (K : PySem.W.Frag) : List V → Hp → VK → Prop := fun xs H Q => ∃ (a : Addr) (c : V) (u : Value) (b : Bool), xs = [.ref a, c] ∧ H a = some (ExO (.type "ValueError") a) ∧ ClsV c u ∧ PySem.W.kitOne K (.type "ValueError") u = some b ∧ Q (.bl b) H
theorem call_isV {X : Cx} : CallR X (.builtin "isinstance") (rIsV X.K) := by
  intro pins s σ H xs us Q I r h
  obtain ⟨a, c, u, b, rfl, he, k, e, q⟩ := h
  obtain ⟨u1, u2, rfl, r1, r2⟩ := vals2 r
  cases (show u1 = Value.ref a from r1)
  have e2 := k.eq r2
  subst e2
  obtain ⟨⟨oe, vs, ho, hz, _⟩, _, _⟩ := I.hok a _ he
  exact PySem.W.kia_one (PySem.W.kitx_bexc PySem.F.excAttr_ValueError F.lkClass_ValueError F.soClass_ValueError (by decide +kernel)) I.kIn ⟨oe, ho, hz.1⟩ e (fun z => nomatch z) fun tk => ⟨.bl b, H, I.tok tk, rfl, q⟩
end Lw
namespace Lw
open PySem PySem.Spec PyProof.Rows L2
/-- what the one __init__ does: the field value, and no more -/
def spInit (K : PySem.W.Frag) : Sp := fun vs H Q _ => ∃ (a C : Addr) (v : V), vs = [.ref a, v] ∧ OexC K C ∧ PySem.W.findIn K (.ref C) "value" = some none ∧ H a = some (exo a C none) ∧
  ∀ H' : Hp, ErrAt H' a C v → (∀ b o, H b = some o → b ≠ a → H' b = some o) → Q .non H'
theorem init_reads {K : PySem.W.Frag} {vs : List V} {H : Hp} {Q : VK} {E : XK} (h : spInit K vs H Q E) : tOst K "value" (tVar 0) (tVar 1) { nx := fun _ H' => Q .non H', rt := Q } (start ["self", "value"] vs) H := by
  obtain ⟨a, C, v, rfl, T, hno, ea, k⟩ := h
  refine ⟨_, rfl, _, rfl, a, C, rfl, T, hno, .inl ⟨ea, fun dx n ne => k _ ⟨dx, upd_same, ?_⟩ fun b o e hb => ?_⟩⟩
  · rw [upd_ne ne]
    exact upd_same
  · rw [upd_ne hb, upd_ne (ne_of_none e n)]
    exact e
/-- a new exception of the class at C, its value what the name in slot i holds -/
theorem mk_reads {K : PySem.W.Frag} {C : Addr} {i : Nat} {σ : L2.St} {H : Hp} {Q : VK} {v : V} (T : XcC K C) (hσ : σ[i]? = some (some v)) (h : ∀ a H', H a = none → ErrAt H' a C v → Same H H' → Q (.ref a) H') :
    tMkV C (spInit K) [] E0 (tCons (tVar i) tNil) σ H Q := by
  refine ⟨v, hσ, (by show 1 ≤ 1000; decide), fun a na => ⟨a, C, v, rfl, T.ox, T.nv, upd_same, fun H' e k => ⟨rfl, h a H' na e fun b o eb => ?_⟩⟩⟩
  have hb : b ≠ a := ne_of_none eb na
  exact k b o (by rw [upd_ne hb]; exact eb) hb
/-- several of them, one behind the other -/
def tMks (K : PySem.W.Frag) (i : Nat) : List Str → TA
  | [] => tNil
  | x :: r => tCons (tMkV (He.ga K x) (spInit K) [] E0 (tCons (tVar i) tNil)) (tMks K i r)
theorem mks_reads {K : PySem.W.Frag} {i : Nat} {σ : L2.St} {v : V} (hσ : σ[i]? = some (some v)) : ∀ (xs : List Str) {H : Hp} {Q : List V → Hp → Prop}, (∀ x ∈ xs, XcC K (He.ga K x)) →
    (∀ (as : List Addr) (H' : Hp), Same H H' → Paired (fun a x => ErrAt H' a (He.ga K x) v) as xs → Q (as.map V.ref) H') → tMks K i xs σ H Q
  | [], H, Q, _, h => h [] H (Same.refl H) .nil
  | x :: r, H, Q, hT, h => by
    show tMkV (He.ga K x) (spInit K) [] E0 (tCons (tVar i) tNil) σ H fun y H1 => tMks K i r σ H1 fun ys H2 => Q (y :: ys) H2
    refine mk_reads (hT x List.mem_cons_self) hσ fun a H1 _ e s1 => ?_
    refine mks_reads hσ r (fun y hy => hT y (List.mem_cons_of_mem _ hy)) fun as H2 s2 p => ?_
    exact h (a :: as) H2 (s1.trans s2) (.cons (e.same s2) p)
/-- what isinstance(the value at a, the class u) tells -/
def IsB (K : PySem.W.Frag) (H : Hp) (a : Addr) (u : Value) (b : Bool) : Prop := (∃ (C : Addr) (v : V), ErrAt H a C v ∧ XcC K C ∧ PySem.W.kitOne K (.ref C) u = some b) ∨ (H a = some (ExO (.type "ValueError") a) ∧ PySem.W.kitOne K (.type "ValueError") u = some b)
theorem IsB.same {K : PySem.W.Frag} {H H' : Hp} {a : Addr} {u : Value} {b : Bool} (h : IsB K H a u b) (s : Same H H') : IsB K H' a u b := by
  rcases h with ⟨C, v, e, T, k⟩ | ⟨e, k⟩
  · exact .inl ⟨C, v, e.same s, T, k⟩
  · exact .inr ⟨s _ _ e, k⟩
def rIsB (K : PySem.W.Frag) : List V → Hp → VK → Prop := fun xs H Q => ∃ (a : Addr) (c : V) (u : Value) (b : Bool), xs = [.ref a, c] ∧ ClsV c u ∧ IsB K H a u b ∧ Q (.bl b) H
theorem call_isB {X : Cx} : CallR X (.builtin "isinstance") (rIsB X.K) := by
  intro pins s σ H xs us Q I r h
  obtain ⟨a, c, u, b, rfl, k, hb, q⟩ := h
  rcases hb with ⟨C, v, e, T, kt⟩ | ⟨e, kt⟩
  · exact call_isX pins s σ H _ us Q I r ⟨a, C, v, c, u, b, rfl, e, T, k, kt, q⟩
  · exact call_isV pins s σ H _ us Q I r ⟨a, c, u, b, rfl, e, k, kt, q⟩
/-- isinstance(the name in slot i, X) for several X, one behind the other -/
def tIss (K : PySem.W.Frag) (i : Nat) : List Str → TA
  | [] => tNil
  | x :: r => tCons (tCB (rIsB K) (tCons (tVar i) (tCons (tC (.ref (He.ga K x))) tNil))) (tIss K i r)
theorem iss_reads {K : PySem.W.Frag} {i : Nat} {σ : L2.St} {a : Addr} (hσ : σ[i]? = some (some (.ref a))) : ∀ {bs : List Bool} {xs : List Str} {H : Hp} {Q : List V → Hp → Prop}, Paired (fun b x => IsB K H a (.ref (He.ga K x)) b) bs xs →
    Q (bs.map V.bl) H → tIss K i xs σ H Q
  | _, _, H, Q, .nil, h => h
  | b :: bs, x :: xs, H, Q, .cons e p, h => ⟨_, hσ, a, _, _, b, rfl, .own _, e, iss_reads hσ p h⟩
/-- xs.extend([..]) several times, then return xs -/
def tExts (K : PySem.W.Frag) (tel : List Str → TA) : List (List Str) → TS
  | [] => tRet (tVar 1)
  | g :: r => tSeq (tDrop (tBM K "list" rExtend (tVar 1) (tCons (tLst (tel g)) tNil))) (tExts K tel r)
end Lw
namespace Lw
open PySem PySem.Spec PyProof.Rows L2
theorem exo_lst {e C : Addr} {d : Option Addr} {xs : List V} : exo e C d ≠ .lst xs := fun z => by
  have z' : HO.ext _ = HO.lst xs := z
  cases z'
theorem exd_lst {e : Addr} {fs : List (Str × V)} {xs : List V} : exd e fs ≠ .lst xs := fun z => by
  have z' : HO.ext _ = HO.lst xs := z
  cases z'
theorem ErrAt.but {H H' : Hp} {a C l : Addr} {v : V} {xs : List V} (h : ErrAt H a C v) (hl : H l = some (.lst xs)) (k : ∀ b o, H b = some o → b ≠ l → H' b = some o) : ErrAt H' a C v := by
  obtain ⟨d, h1, h2⟩ := h
  exact ⟨d, k _ _ h1 (ne_of h1 hl exo_lst), k _ _ h2 (ne_of h2 hl exd_lst)⟩
theorem paired_map {α β : Type} {F G : α → β → Prop} (h : ∀ a b, F a b → G a b) : ∀ {l : List α} {m : List β}, Paired F l m → Paired G l m
  | _, _, .nil => .nil
  | _, _, .cons r t => .cons (h _ _ r) (paired_map h t)
theorem paired_app {α β : Type} {F : α → β → Prop} : ∀ {l l' : List α} {m m' : List β}, Paired F l m → Paired F l' m' → Paired F (l ++ l') (m ++ m')
  | _, _, _, _, .nil, h => h
  | _, _, _, _, .cons r t, h => .cons r (paired_app t h)
theorem paired_split {α β : Type} {F : α → β → Prop} : ∀ {m m' : List β} {l : List α}, Paired F l (m ++ m') → ∃ l1 l2, l = l1 ++ l2 ∧ Paired F l1 m ∧ Paired F l2 m'
  | [], _, l, q => ⟨[], l, rfl, .nil, q⟩
  | _ :: m, _, _ :: _, .cons r t => by
    obtain ⟨l1, l2, e, q1, q2⟩ := paired_split (m := m) t
    exact ⟨_ :: l1, l2, by rw [e]; rfl, .cons r q1, q2⟩
theorem lst_first {te : TA} {rest : TS} {D : Ends} {v : V} {H : Hp} (h : te [some v, none] H fun xs H1 => xs.length ≤ sizeLine ∧ ∀ p, H1 p = none → rest D [some v, some (.ref p)] (upd H1 p (.lst xs))) : tSeq (tAsg (tLst te) (gName 1)) rest D [some v, none] H := h
theorem exts_made {K : PySem.W.Frag} {v : V} {l : Addr} {H0 : Hp} {D : Ends} (h0 : H0 l = none) : ∀ (gs : List (List Str)) {H : Hp} {as : List Addr} {done : List Str}, H l = some (.lst (as.map V.ref)) → Same H0 H → Paired (fun a x => ErrAt H a (He.ga K x) v) as done →
    (∀ g ∈ gs, ∀ x ∈ g, XcC K (He.ga K x)) → (∀ g ∈ gs, g.length ≤ 100) → done.length + 100 * gs.length ≤ 10000 →
    (∀ (as' : List Addr) (H' : Hp), H' l = some (.lst (as'.map V.ref)) → Same H0 H' → Paired (fun a x => ErrAt H' a (He.ga K x) v) as' (done ++ gs.flatten) → D.rt (.ref l) H') →
    tExts K (tMks K 0) gs D [some v, some (.ref l)] H
  | [], H, as, done, hl, s0, p, _, _, _, k => ⟨_, rfl, k as H hl s0 (by rw [List.flatten_nil, List.append_nil]; exact p)⟩
  | g :: gs, H, as, done, hl, s0, p, hT, hg, hn, k => by
    refine ⟨_, rfl, Or.inl ⟨rfl, _, Or.inl (Or.inl hl)⟩, ?_⟩
    have big : (100000 : Nat) ≤ sizeLine := by rw [sizeLine_eq]; omega
    have g1 := hg g List.mem_cons_self
    have e1 := paired_len p
    rw [List.length_cons] at hn
    refine mks_reads rfl g (hT g List.mem_cons_self) fun as2 H2 s2 p2 => ?_
    have e2 := paired_len p2
    refine ⟨by rw [List.length_map]; omega, fun q hq => ?_⟩
    have hl2 := s2 _ _ hl
    have nlq : l ≠ q := ne_of_none hl2 hq
    refine ⟨l, q, as.map V.ref, as2.map V.ref, rfl, rfl, by rw [upd_ne nlq]; exact hl2, upd_same, by rw [List.length_map, List.length_map]; omega, ?_⟩
    have kb : ∀ b o, H2 b = some o → b ≠ l → upd (upd H2 q (.lst (as2.map V.ref))) l (.lst (as.map V.ref ++ as2.map V.ref)) b = some o := fun b o e hb => by
      rw [upd_ne hb, upd_ne (ne_of_none e hq)]
      exact e
    refine exts_made h0 gs (as := as ++ as2) (done := done ++ g) (by rw [upd_same, List.map_append]) (fun b o e => kb b o (s2 _ _ (s0 _ _ e)) (ne_of_none e h0)) (paired_app (paired_map (fun a x h => (h.same s2).but hl2 kb) p) (paired_map (fun a x h => h.but hl2 kb) p2))
      (fun g' h' => hT g' (List.mem_cons_of_mem _ h')) (fun g' h' => hg g' (List.mem_cons_of_mem _ h')) (by rw [List.length_append]; omega) fun as' H' a1 a2 a3 => k as' H' a1 a2 ?_
    rw [List.flatten_cons, ← List.append_assoc]
    exact a3
theorem exts_iss {K : PySem.W.Frag} {a l : Addr} {H0 : Hp} {D : Ends} (h0 : H0 l = none) : ∀ (gs : List (List Str)) {H : Hp} {bs cs : List Bool}, H l = some (.lst (bs.map V.bl)) → Same H0 H → Paired (fun b x => IsB K H0 a (.ref (He.ga K x)) b) cs gs.flatten →
    bs.length + cs.length ≤ 10000 → (∀ H' : Hp, H' l = some (.lst ((bs ++ cs).map V.bl)) → Same H0 H' → D.rt (.ref l) H') → tExts K (tIss K 0) gs D [some (.ref a), some (.ref l)] H
  | [], H, bs, cs, hl, s0, p, _, k => by
    cases p
    refine ⟨_, rfl, k H ?_ s0⟩
    rw [List.append_nil]
    exact hl
  | g :: gs, H, bs, cs, hl, s0, p, hn, k => by
    have big : (100000 : Nat) ≤ sizeLine := by rw [sizeLine_eq]; omega
    obtain ⟨c1, c2, rfl, p1, p2⟩ := paired_split (m := g) (m' := gs.flatten) (by rw [← List.flatten_cons]; exact p)
    rw [List.length_append] at hn
    refine ⟨_, rfl, Or.inl ⟨rfl, _, Or.inl (Or.inl hl)⟩, ?_⟩
    refine iss_reads rfl (paired_map (fun b x h => h.same s0) p1) ⟨by rw [List.length_map]; omega, fun q hq => ?_⟩
    have nlq : l ≠ q := ne_of_none hl hq
    refine ⟨l, q, bs.map V.bl, c1.map V.bl, rfl, rfl, by rw [upd_ne nlq]; exact hl, upd_same, by rw [List.length_map, List.length_map]; omega, ?_⟩
    refine exts_iss h0 gs (bs := bs ++ c1) (cs := c2) (by rw [upd_same, List.map_append]) (fun b o e => ?_) p2 (by rw [List.length_append]; omega) fun H' a1 a2 => k H' (by rw [← List.append_assoc]; exact a1) a2
    rw [upd_ne (ne_of_none e h0), upd_ne (ne_of_none (s0 _ _ e) hq)]
    exact s0 _ _ e
end Lw

set_option Elab.async false
set_option linter.all false
set_option maxRecDepth 100000
set_option maxHeartbeats 4000000
/-! A law whose def shows values; data under a growing heap. -/
namespace Lw
open PySem PySem.Spec PyProof.Rows L2
theorem ifF {c : Bool} {A B : Prop} (hc : c = false) (h : B) : if c = true then A else B := by
  subst hc
  exact iteF h
theorem ifT {c : Bool} {A B : Prop} (hc : c = true) (h : A) : if c = true then A else B := by
  subst hc
  exact iteT h
theorem set_reads {te : TE} {i : Nat} {D : Ends} {σ : L2.St} {H : Hp} (h : te σ H fun v H1 => D.nx (σ.set i (some v)) H1) : tAsg te (gName i) D σ H := h
theorem seq_reads {t u : TS} {D : Ends} {σ : L2.St} {H : Hp} (h : t { D with nx := fun σ' H' => u D σ' H' } σ H) : tSeq t u D σ H := h
theorem sqT_same {K : PySem.W.Frag} {H H' : Hp} {a : Addr} {xs : List V} (e : Same H H') (h : SqT K H a xs) : SqT K H' a xs := by
  rcases h with (h | ⟨o, h⟩) | h
  · exact .inl (.inl (e _ _ h))
  · exact .inl (.inr ⟨o, e _ _ h⟩)
  · exact .inr h
mutual
theorem dp_same {K : PySem.W.Frag} {H H' : Hp} (e : Same H H') : ∀ (d : PyData) (v : V), Dp K H v d → Dp K H' v d
  | .none, _, h => by cases h; exact .non
  | .bool _, _, h => by cases h; exact .bl _
  | .int _, _, h => by cases h; exact .int _
  | .str _, _, h => by cases h; exact .str _
  | .list ds, _, h => by
    cases h with
    | lst hs ha => exact .lst (e.seq hs) (dpAll_same e ds _ ha)
  | .tuple ds, _, h => by
    cases h with
    | tup hs ha => exact .tup (sqT_same e hs) (dpAll_same e ds _ ha)
  | .dict _, _, h => by cases h
theorem dpAll_same {K : PySem.W.Frag} {H H' : Hp} (e : Same H H') : ∀ (ds : List PyData) (vs : List V), DpAll K H vs ds → DpAll K H' vs ds
  | [], _, h => by cases h; exact .nil
  | d :: ds, _, h => by
    cases h with
    | cons h1 h2 => exact .cons (dp_same e d _ h1) (dpAll_same e ds _ h2)
end
theorem Dr.same {K : PySem.W.Frag} {H H' : Hp} {v : V} {d : PyData} (h : Dr K H v d) (e : Same H H') : Dr K H' v d := by
  cases h with
  | dp h => exact .dp (dp_same e d v h)
  | dic h f => exact .dic (e _ _ h) f
/-- a list of bools, as data -/
theorem dp_bools {K : PySem.W.Frag} {H : Hp} : ∀ bs : List Bool, DpAll K H (bs.map V.bl) (bs.map PyData.bool)
  | [] => .nil
  | b :: bs => .cons (.bl b) (dp_bools bs)
theorem lay_bools : ∀ bs : List Bool, PyData.canLayAll0 (bs.map PyData.bool) = true
  | [] => rfl
  | b :: bs => by
    rw [List.map_cons, PyData.canLayAll0, lay_bools bs]
    rfl
theorem depth_bools : ∀ bs : List Bool, PyData.depthAll (bs.map PyData.bool) = 0
  | [] => rfl
  | b :: bs => by
    rw [List.map_cons, PyData.depthAll, depth_bools bs]
    rfl
theorem shaped_bools (bs : List Bool) : SeqAt.shaped (.list (bs.map PyData.bool)) = true := by
  show (PyData.canLay0 (.list (bs.map PyData.bool)) && decide (PyData.depth (.list (bs.map PyData.bool)) ≤ 64)) = true
  rw [Bool.and_eq_true]
  refine ⟨by simp only [PyData.canLay0]; exact lay_bools bs, decide_eq_true ?_⟩
  simp only [PyData.depth]
  rw [depth_bools]
  decide
theorem eqv_bools : ∀ bs : List Bool, PyData.eqvAll (bs.map PyData.bool) (bs.map PyData.bool) = true
  | [] => by simp [PyData.eqvAll]
  | b :: bs => by
    rw [List.map_cons, PyData.eqvAll, eqv_bools bs]
    cases b <;> simp [PyData.eqv]
theorem paired_get {α β : Type} {F : α → β → Prop} : ∀ {l : List α} {m : List β} {i : Nat} {a : α}, Paired F l m → l[i]? = some a → ∃ b, m[i]? = some b ∧ F a b
  | _, _, 0, a, .cons r _, h => ⟨_, rfl, by rw [← Option.some.inj h]; exact r⟩
  | _, _, i + 1, a, .cons _ t, h => paired_get (i := i) t h
  | _, _, _, _, .nil, h => by cases h
theorem paired_const {α β : Type} {F : α → β → Prop} {g : β → α} : ∀ {m : List β}, (∀ y ∈ m, F (g y) y) → Paired F (m.map g) m
  | [], _ => .nil
  | y :: m, h => .cons (h y List.mem_cons_self) (paired_const fun z hz => h z (List.mem_cons_of_mem _ hz))
/-- the law's own call, its def's promise holding where nothing is being shown -/
theorem lawG_call {P : Program} {w : World} {K : PySem.W.Frag} {mg mb : Str → Option Value} {CX : CXT} {k : Nat} {fa a : Addr} {fd : FuncData} {x : Str} {sp : Sp} {s₁ : Shared} {vs : List Value} {ns : List Int}
    (KX : K.In s₁.heap) (hns : s₁.heap.Ns mainGlobals mg) (hb : s₁.heap.Ns builtinsNs mb) (hbb : ∀ x : Str, x ≠ "__name__" → mb x = bootBuiltins x) (hlim : s₁.heap.NoLimit) (hg : s₁.gens = #[])
    (ha : s₁.heap.get? a = some { cls := .type "list", data := .seq vs.toArray }) (hi : IntsAre vs ns) (hl : ns.length ≤ sizeLine) (hr : Room k callerA)
    (F : ∀ base : Heap, K.In base → base.Ns mainGlobals mg → FnG P w K mg base CX k fa fd [x] sp) (hbind : ∀ (s : Shared) (u : Value), BindsTo s fd ⟨[u], []⟩ [(x, u)])
    (hsp : ∀ H : Hp, Only H → SqL K H a (ns.map V.int) → sp [.ref a] H (fun v _ => v = .bl true) fun _ _ _ => False) (hCX : ∀ H e s', CX [] H s₁ (fun _ _ _ => False) e s' → False) :
    codeAny (model P w) callerA (.call (.ref fa) ⟨[.ref a], []⟩) (fun r s' => r = .ok (.ret (.bool true)) ∧ OldK s₁.heap s'.heap ∧ s'.os = s₁.os ∧ AllBare s'.gens) s₁ := by
  have go : ∀ H : Hp, Only H → SqL K H a (ns.map V.int) → HOk P w H s₁.heap → (∀ b u, H b = some u → b = a) → (∀ u, H a = some u → K.lookup a = none) →
      codeAny (model P w) callerA (.call (.ref fa) ⟨[.ref a], []⟩) (fun r s' => r = .ok (.ret (.bool true)) ∧ OldK s₁.heap s'.heap ∧ s'.os = s₁.os ∧ AllBare s'.gens) s₁ := by
    intro H only sq hok one noK
    have keepN : ∀ {b : Addr} {o : Obj}, s₁.heap.get? b = some o → H b = none → (hidT s₁.heap H).get? b = some o := fun z n => hidT_get z n
    have notA : ∀ {b : Addr} {o : Obj} {es : Array DictEntry} {ep : Nat}, s₁.heap.get? b = some o → o.data = .dict es ep → H b = none := by
      intro b o es ep z d
      rcases q : H b with _ | u
      · rfl
      · have e := one b u q
        subst e
        rw [ha] at z
        cases z
        cases (show Data.seq vs.toArray _ = Data.dict es ep from d)
    have kns : ∀ {b : Addr} {m : Str → Option Value}, s₁.heap.Ns b m → (hidT s₁.heap H).Ns b m := by
      rintro b m ⟨o, es, ep, z, d, r⟩
      exact ⟨o, es, ep, keepN z (notA z d), d, r⟩
    have kin : K.In (hidT s₁.heap H) := by
      intro b o z
      refine keepN (KX b o z) ?_
      rcases q : H b with _ | u
      · rfl
      · have e := one b u q
        subst e
        rw [noK u q] at z
        cases z
    obtain ⟨mc, l1, l2⟩ := hlim
    have e0 : Env0 P w K mg (hidT s₁.heap H) callerA [] s₁ H :=
      { frames := rfl, mod := { kin := kin, glob := kns hns, blt := ⟨mb, kns hb, hbb⟩, nolimit := ⟨mc, kns l1, l2⟩ }, bs := fun _ _ z => of_hidT z, bsz := Nat.le_of_eq (hidT_size _ _), funs := trivial, frf := fun b z => (by cases (show b ∈ ([] : List Addr) from z)), hok := hok, bare := .of_eq hg }
    refine codeAny_mono ((F _ kin (kns hns)).run callerA [] s₁ H ⟨[.ref a], []⟩ [.ref a] [.ref a] _ _ rfl hr e0 (hbind s₁ (.ref a)) (.cons rfl .nil) (hsp H only sq)) ?_
    intro r s' h
    match r, h with
    | .error e, h => exact (hCX H e s' h).elim
    | .ok .next, h => exact h.elim
    | .ok .brk, h => exact h.elim
    | .ok .cont, h => exact h.elim
    | .ok (.ret u), ⟨v, H', os, bare, un, hok', r', q⟩ =>
      cases (show v = V.bl true from q)
      cases (show u = Value.bool true from r')
      refine ⟨rfl, OldK.of_keep fun b o z => ?_, os, bare⟩
      rcases only b with n | ⟨ob, xs, n⟩
      · exact un.keep b o z n (fun y => by cases (show b ∈ ([] : List Addr) from y)) (by simp)
      · obtain ⟨e1, _⟩ := hok b _ n
        obtain ⟨e2, _⟩ := hok' b _ (un.frzs b ob _ n)
        rw [z] at e1
        cases e1
        exact e2
  have rv : Vals (ns.map V.int) vs := vals_ints hi
  have len := hi.length
  rcases hk : K.lookup a with _ | o
  · -- the script is tracked, locked
    refine go (fun b => if b = a then some (.frz { cls := .type "list", data := .seq vs.toArray } (.lst (ns.map V.int))) else none) ?_ (.inl (.inr ⟨_, if_pos rfl⟩)) ?_ ?_ fun _ _ => hk
    · intro b
      by_cases e : b = a
      · exact .inr ⟨_, _, if_pos e⟩
      · exact .inl (if_neg e)
    · intro b u z
      by_cases e : b = a
      · subst e
        cases (if_pos rfl).symm.trans z
        exact ⟨ha, by rw [List.length_map]; exact hl, vs, _, rv, ha⟩
      · cases (if_neg e).symm.trans z
    · intro b u z
      by_cases e : b = a
      · exact e
      · cases (if_neg e).symm.trans z
  · -- the script is an object of the module
    have e := KX a o hk
    rw [ha] at e
    cases e
    exact go (fun _ => none) (fun _ => .inl rfl) (.inr ⟨_, vs.toArray, _, hk, rfl, rfl, rfl, by rw [List.size_toArray, len]; exact hl, by simpa using rv⟩) (fun b u z => (by cases (show (none : Option HO) = some u from z)))
      (fun b u z => (by cases (show (none : Option HO) = some u from z))) fun u z => (by cases (show (none : Option HO) = some u from z))
theorem walkG {l : PySem.W.OpenLaw} {n k : Nat} {q : Program} {loose : List Str} {XP : (Str → Option Value) → Heap → Prop} {YP : World → Heap → Prop} {d : DefRec} {CX : CXT} {x : Str}
    (hn : l.most = some n) (hn2 : n ≤ sizeLine) (hdf : d.params.defaults = []) (hr : Room k callerA)
    (F : ∀ (w : World) (mg : Str → Option Value) (fa : Addr) (h : Heap), YP w h → h.Ns mainGlobals mg → mg d.name = some (.ref fa) →
      ∃ (K : PySem.W.Frag) (fd : FuncData) (sp : Sp), K.In h ∧ (∀ (s : Shared) (u : Value), BindsTo s fd ⟨[u], []⟩ [(x, u)]) ∧
        (∀ (H : Hp) (a : Addr) (ns : List Int), ns.length ≤ n → Only H → SqL K H a (ns.map V.int) → sp [.ref a] H (fun v _ => v = .bl true) fun _ _ _ => False) ∧
        ∀ base : Heap, K.In base → base.Ns mainGlobals mg → FnG l.prog w K mg base CX k fa fd [x] sp)
    (hCX : ∀ (H : Hp) (s : Shared) (e : Value) (s' : Shared), CX [] H s (fun _ _ _ => False) e s' → False) : PySem.W.WalkO q loose XP YP l.row.toRowW d [] (fun f vs => PySem.call f vs) := by
  refine Att.attach_call hn hdf fun w s₀ s₁ mg mb fa o pm cd doc a vs ns G Y ho hd hcd hmg hobj hints hlen hg => ?_
  obtain ⟨K, fd, sp, kin, bind, want, prom⟩ := F w mg fa _ Y G.T.g hmg
  exact lawG_call kin G.T.g G.T.b G.T.builtins G.T.nolimit hg hobj hints (Nat.le_trans hlen hn2) hr prom bind (fun H o S => want H a ns hlen o S) fun H e s' => hCX H s₁ e s'
/-! ### the head: facts of one's own kind -/
def obsL (chk : PySem.W.Frag → Bool) (fn : List He.DefD) (K : PySem.W.Frag) : He.AlD := (chk K && fn.all fun d => d.ok K, fn.map fun d => He.fnW K d.at_)
def SaysL (chk : PySem.W.Frag → Bool) (fn : List He.DefD) (K : PySem.W.Frag) : Prop := obsL chk fn K = He.valD fn
def obsLG (n : Nat) (chk : PySem.W.Frag → Bool) (fn : List He.DefD) (g : Addr → Option Obj) : He.AlD := obsL chk fn (He.frG g (He.asD g n))
def hookL (n : Nat) (chk : PySem.W.Frag → Bool) (fn : List He.DefD) : PySem.W.Hook where
  α := He.AlD
  obs := fun s => obsLG n chk fn s.heap.get?
  val := fun _ => He.valD fn
  says := fun _ h => ∃ K : PySem.W.Frag, K.In h ∧ SaysL chk fn K
  of := fun _ _ e => ⟨_, He.frG_in, e⟩
  keeps := fun _ _ _ ⟨K, hK, c⟩ k => ⟨K, PySem.W.Frag.In.keeps hK k, c⟩
theorem obsLG_eq {n : Nat} {chk : PySem.W.Frag → Bool} {fn : List He.DefD} {g : Addr → Option Obj} {s : Shared} (h : ∀ a, g a = s.heap.get? a) : obsLG n chk fn g = (hookL n chk fn).obs s := by
  have e : g = s.heap.get? := funext h
  rw [e] <;> rfl
theorem SaysL.chk {chk : PySem.W.Frag → Bool} {fn : List He.DefD} {K : PySem.W.Frag} (c : SaysL chk fn K) : chk K = true :=
  (He.ba (show (chk K && fn.all fun d => d.ok K) = true from congrArg (fun z : He.AlD => z.1) c)).1
theorem SaysL.def_ {chk : PySem.W.Frag → Bool} {fn : List He.DefD} {K : PySem.W.Frag} (c : SaysL chk fn K) (i : Nat) {d : He.DefD} (h : fn[i]? = some d := by rfl) : ∃ fd, FunD K d.name d.qual d.params d.body d.scope (d.dvs K) (d.kws K) (He.fAd K d.at_) fd := by
  have c2 := (He.ba (show (chk K && fn.all fun d => d.ok K) = true from congrArg (fun z : He.AlD => z.1) c)).2
  have e2 : (fn.map fun d => He.fnW K d.at_)[i]? = (fn.map He.DefD.val)[i]? := congrArg (fun l : List He.FnW => l[i]?) (congrArg (fun z : He.AlD => z.2) c)
  rw [List.getElem?_map, List.getElem?_map, h] at e2
  exact He.DefD.funD (Option.some.inj e2) (List.all_eq_true.mp c2 d (List.mem_of_getElem? h))
end Lw

set_option Elab.async false
set_option linter.all false
set_option maxRecDepth 100000
set_option maxHeartbeats 4000000
/-! Operators that an own class defines: | and & (any binary one), in, ==, and != by its own ==. -/
namespace Lw
open PySem PySem.Spec PyProof.Rows L2
theorem ins_inst {X : Cx} {pins : List (Addr × Obj)} {σ : L2.St} {H : Hp} {s : Shared} {a C dx : Addr} {fs : List (Str × V)} (I : Inv X pins σ H s) (h : H a = some (.ins C dx fs)) : ∃ ox od, PySem.W.InstAt s.heap a ox C (some od) := by
  obtain ⟨m, O, _⟩ := ins_get I.hok h
  obtain ⟨od, J, _⟩ := O.look
  exact ⟨_, od, J⟩
section
variable {X : Cx} {CX : CXT} {k : Nat} {C f : Addr} {fd : FuncData} {p1 p2 : Str} {sp : Sp} {E : XK}
def rOwnB (C : Addr) (sp : Sp) (E : XK) : R2 := fun x y H Q => ∃ (a dx b dy : Addr) (fs gs : List (Str × V)), x = .ref a ∧ y = .ref b ∧ H a = some (.ins C dx fs) ∧ H b = some (.ins C dy gs) ∧ sp [.ref a, .ref b] H Q E
theorem op_ownB {op : Operator} (hs : PySem.W.findIn X.K (.ref C) (PySem.dunder op.info.2) = some (some (.ref f))) (hf : PySem.W.isFn X.K (.ref f) = true) (hc : PySem.W.selfFirst X.K C = true)
    (F : FnOk X.prog X.w X.K X.mg X.base CX k f fd [p1, p2] sp) (hr : Room k X.A) (hb : Binds X.K fd [p1, p2] []) (hx : Passes CX X E) : OpR X (binaryOp op) (rOwnB C sp E) := by
  intro pins s σ H x y v u Q I rx ry h
  obtain ⟨a, dx, b, dy, fs, gs, rfl, rfl, ha, hbb, q⟩ := h
  cases (show v = Value.ref a from rx)
  cases (show u = Value.ref b from ry)
  obtain ⟨ox, od, J⟩ := ins_inst I ha
  obtain ⟨oy, oe, J'⟩ := ins_inst I hbb
  obtain ⟨m, fr⟩ := I.fr
  refine PySem.W.binop_K fr I.ok.mod.kin J J'.type hc hs hf (wpAny_mono (run_fn (us := [.ref a, .ref b]) (vs := [.ref a, .ref b]) F hr hb .nil hx I (.cons rfl (.cons rfl .nil)) q) (fun w s' z => ?_) fun _ _ z => z)
  obtain ⟨z', H', I', rz, qz⟩ := z
  exact SlX.cmpback rz ⟨z', H', I', rz, qz⟩
/-- x in y, y such an instance -/
def rOwnIn (C : Addr) (sp : Sp) (E : XK) : R2 := fun x y H Q => ∃ (b dy : Addr) (gs : List (Str × V)), y = .ref b ∧ H b = some (.ins C dy gs) ∧ sp [.ref b, x] H (fun r H' => ∃ c, r = .bl c ∧ Q (.bl c) H') E
theorem op_ownIn (hs : PySem.W.findIn X.K (.ref C) "__contains__" = some (some (.ref f))) (hf : PySem.W.isFn X.K (.ref f) = true)
    (F : FnOk X.prog X.w X.K X.mg X.base CX k f fd [p1, p2] sp) (hr : Room k X.A) (hb : Binds X.K fd [p1, p2] []) (hx : Passes CX X E) : OpR X (compareOp .In) (rOwnIn C sp E) := by
  intro pins s σ H x y v u Q I rx ry h
  obtain ⟨b, dy, gs, rfl, hbb, q⟩ := h
  cases (show u = Value.ref b from ry)
  obtain ⟨oy, oe, J⟩ := ins_inst I hbb
  obtain ⟨m, fr⟩ := I.fr
  refine PySem.W.in_K fr I.ok.mod.kin J hs hf (wpAny_mono (run_fn (us := [.ref b, v]) (vs := [.ref b, x]) F hr hb .nil hx I (.cons rfl (.cons rx .nil)) q) (fun w s' z => ?_) fun _ _ z => z)
  obtain ⟨z', H', I', rz, c, rfl, qz⟩ := z
  cases (show w = Value.bool c from rz)
  exact wpAny_truthy_bool ⟨.bl c, H', I', rfl, qz⟩
/-- x == y, x such an instance, y of a class that is not below it -/
def rOwnEq (K : PySem.W.Frag) (C : Addr) (sp : Sp) (E : XK) : R2 := fun x y H Q => ∃ (a dx : Addr) (fs : List (Str × V)) (t : Value), x = .ref a ∧ H a = some (.ins C dx fs) ∧ TyX K H y t ∧ PySem.W.notFirst K C t = true ∧ sp [.ref a, y] H Q E
theorem op_ownEq (hs : PySem.W.findIn X.K (.ref C) "__eq__" = some (some (.ref f))) (hf : PySem.W.isFn X.K (.ref f) = true)
    (F : FnOk X.prog X.w X.K X.mg X.base CX k f fd [p1, p2] sp) (hr : Room k X.A) (hb : Binds X.K fd [p1, p2] []) (hx : Passes CX X E) : OpR X (compareOp .Eq) (rOwnEq X.K C sp E) := by
  intro pins s σ H x y v u Q I rx ry h
  obtain ⟨a, dx, fs, t, rfl, ha, ty, hn, q⟩ := h
  cases (show v = Value.ref a from rx)
  obtain ⟨ox, od, J⟩ := ins_inst I ha
  obtain ⟨P, Z, p, _⟩ := kit_of I ry ty
  obtain ⟨m, fr⟩ := I.fr
  have hu : X.A.units < cLine := by have := hr.un; omega
  show wpAny _ _ (richCompare .Eq (.ref a) u) _ _ _
  refine PySem.W.cmp_K (op := .Eq) hu fr I.ok.mod.kin J (Z.ty _ _ I.kIn p) hn hs hf (wpAny_mono (run_fn (us := [.ref a, u]) (vs := [.ref a, y]) F hr hb .nil hx I (.cons rfl (.cons ry .nil)) q) (fun w s' z => ?_) fun _ _ z => z)
  obtain ⟨z', H', I', rz, qz⟩ := z
  exact SlX.cmpback rz ⟨z', H', I', rz, qz⟩
end
end Lw
namespace Lw
open PySem PySem.Spec PyProof.Rows L2
section
variable {prog : Program} {w : World} {A : Around} {E : Value → Shared → Prop} {s : Shared} {K : PySem.W.Frag} {x C f : Addr} {ox : Obj} {od : Option Obj} {b tb : Value}
theorem bound_slot {M : Model} {id : String} {name : Str} {args : List Value} {Q : Option Value → Shared → Prop} (X : K.In s.heap) (I : PySem.W.InstAt s.heap x ox C od) (hs : PySem.W.findIn K (.ref C) name = some (some (.builtin id)))
    (S : ∀ self, bindSpecial (.builtin id) self = pure (.builtin id, [self])) (h : wpAny M A (call (.builtin id) (.ref x :: args)) (fun v => Q (some v)) E s) : wpAny M A (callSpecialIfBound? (.ref x) name args) Q E s := by
  have fin : wpAny M A (call (.builtin id) ([.ref x] ++ args) >>= fun v => pure (some v)) Q E s := wpAny_bind (wpAny_mono h (fun _ _ z => wpAny_pure z) fun _ _ z => z)
  simp only [callSpecialIfBound?, bindSpecialIfBound?]
  refine wpAny_holding (wpAny_bind (wpAny_bind (wpAny_bind (I.type.here ((PySem.W.looks_findIn X hs).here ?_)))))
  simp only [S]
  refine wpAny_bind (wpAny_askSetting (wpAny_ite ?_))
  split
  · exact wpAny_bind (wpAny_pure (wpAny_pure fin))
  · exact wpAny_tryCatch (wpAny_bind (wpAny_pure (wpAny_pure fin)))
/-- x.__ne__(b) as object has it, by the class's own __eq__ -/
theorem call_objNe {Q : Value → Shared → Prop} (hu : A.units + 1 < cLine) (X : K.In s.heap) (I : PySem.W.InstAt s.heap x ox C od) (hm : PySem.W.mroIn K C (.type "object") = some true) (hs : PySem.W.findIn K (.ref C) "__eq__" = some (some (.ref f)))
    (hf : PySem.W.isFn K (.ref f) = true) (h : wpAny (model prog w) A.in1 (call (.ref f) [.ref x, b]) (fun v s' => ∃ c, v = .bool c ∧ Q (.bool (!c)) s') E s) : wpAny (model prog w) A (call (.builtin "object.__ne__") [.ref x, b]) Q E s := by
  have sub : PySem.W.Looks (model prog w) s.heap (isInstance (.ref x) (.type "object")) true := I.type.andThen (PySem.W.looks_mroIn X hm)
  refine wpAny_call (codeAny_call_builtin PySem.F.cmp_object.ne.plain PySem.F.cmpEntry_ne (PySem.W.check_slot PySem.F.cmpKind_ne PySem.F.cmpSplit_ne sub (PySem.F.cmpArgs_ne _ _) ?_))
  unfold Builtin.«object.__ne__»
  refine wpAny_bind (wpAny_of_eq (a := ((Value.ref x : Value), [b])) (by first | rfl | (simp only [slotArgs]; rfl)) ?_)
  refine wpAny_bind (wpAny_cRoomFor hu ?_)
  refine wpAny_bind (PySem.W.ifBound_K X I hs hf (wpAny_mono h (fun v s' hv => ?_) fun _ _ z => z))
  obtain ⟨c, rfl, q⟩ := hv
  exact wpAny_bind (wpAny_truthy_bool (wpAny_pure q))
theorem ne_K {Q : Value → Shared → Prop} (hu : A.units + 1 < cLine) (X : K.In s.heap) (I : PySem.W.InstAt s.heap x ox C od) (hb : PySem.W.Looks (model prog w) s.heap (typeOf b) tb) (hn : PySem.W.notFirst K C tb = true) (hm : PySem.W.mroIn K C (.type "object") = some true)
    (hne : PySem.W.findIn K (.ref C) "__ne__" = some (some (.builtin "object.__ne__"))) (hs : PySem.W.findIn K (.ref C) "__eq__" = some (some (.ref f))) (hf : PySem.W.isFn K (.ref f) = true)
    (h : wpAny (model prog w) A.in1 (call (.ref f) [.ref x, b]) (fun v s' => ∃ c, v = .bool c ∧ Q (.bool (!c)) s') E s) : wpAny (model prog w) A (richCompare .NotEq (.ref x) b) Q E s := by
  have z1 : wpAny (model prog w) A (callSpecialIfBound? (.ref x) "__ne__" [b]) (fun r s' => ∃ c, r = some (.bool c) ∧ Q (.bool c) s') E s :=
    bound_slot (Q := fun r s' => ∃ c, r = some (.bool c) ∧ Q (.bool c) s') X I hne PySem.F.cmp_object.ne.bind
      (wpAny_mono (call_objNe (Q := fun v s' => ∃ c, v = .bool c ∧ Q (.bool c) s') hu X I hm hs hf (wpAny_mono h (fun v s' ⟨c, e, q⟩ => ⟨c, e, !c, rfl, q⟩) fun _ _ z => z)) (fun v s' ⟨c, e, q⟩ => ⟨c, by rw [e], q⟩) fun _ _ z => z)
  have one : wpAny (model prog w) A (tryCompare (.ref x) "__ne__" b) (fun r s' => ∃ c, r = some (.bool c) ∧ Q (.bool c) s') E s := by
    unfold tryCompare
    refine wpAny_bind (wpAny_mono z1 (fun r s' hv => ?_) fun _ _ z => z)
    obtain ⟨c, rfl, q⟩ := hv
    exact wpAny_pure ⟨c, rfl, q⟩
  unfold richCompare
  simp only [PySem.oneThing_ref]
  refine wpAny_holding (wpAny_bind (wpAny_cRoomFor (by omega) (wpAny_bind (I.type.here (wpAny_bind (hb.here ?_))))))
  have fin : ∀ (k : Option Value → Sem Value), (∀ c s', Q (.bool c) s' → wpAny (model prog w) A (k (some (.bool c))) Q E s') → wpAny (model prog w) A (tryCompare (.ref x) "__ne__" b >>= k) Q E s := fun k hk => by
    refine wpAny_bind (wpAny_mono one (fun r s' hv => ?_) fun _ _ z => z)
    obtain ⟨c, rfl, q⟩ := hv
    exact hk c s' q
  split
  · rename_i q
    have e : PySem.W.subIn K tb (.ref C) = some false := by
      rcases Bool.or_eq_true_iff.mp hn with e | e
      · rw [beq_iff_eq.mp e] at q
        simp at q
      · exact beq_iff_eq.mp e
    refine wpAny_bind ((PySem.W.looks_subIn X e).here ?_)
    simp only [Bool.false_eq_true, if_false]
    exact fin _ fun c s' q => wpAny_pure q
  · refine wpAny_bind (wpAny_pure ?_)
    simp only [Bool.false_eq_true, if_false]
    exact fin _ fun c s' q => wpAny_pure q
end
section
variable {X : Cx} {CX : CXT} {k : Nat} {C f : Addr} {fd : FuncData} {p1 p2 : Str} {sp : Sp} {E : XK}
/-- x != y, by the class's own == -/
def rOwnNe (K : PySem.W.Frag) (C : Addr) (sp : Sp) (E : XK) : R2 := fun x y H Q => ∃ (a dx : Addr) (fs : List (Str × V)) (t : Value), x = .ref a ∧ H a = some (.ins C dx fs) ∧ TyX K H y t ∧ PySem.W.notFirst K C t = true ∧ sp [.ref a, y] H (fun r H' => ∃ c, r = .bl c ∧ Q (.bl (!c)) H') E
theorem op_ownNe (hm : PySem.W.mroIn X.K C (.type "object") = some true) (hne : PySem.W.findIn X.K (.ref C) "__ne__" = some (some (.builtin "object.__ne__"))) (hs : PySem.W.findIn X.K (.ref C) "__eq__" = some (some (.ref f))) (hf : PySem.W.isFn X.K (.ref f) = true)
    (F : FnOk X.prog X.w X.K X.mg X.base CX k f fd [p1, p2] sp) (hr : Room (k + 1) X.A) (hb : Binds X.K fd [p1, p2] []) (hx : Passes CX X E) : OpR X (compareOp .NotEq) (rOwnNe X.K C sp E) := by
  intro pins s σ H x y v u Q I rx ry h
  obtain ⟨a, dx, fs, t, rfl, ha, ty, hn, q⟩ := h
  cases (show v = Value.ref a from rx)
  obtain ⟨ox, od, J⟩ := ins_inst I ha
  obtain ⟨P, Z, p, _⟩ := kit_of I ry ty
  have hu : X.A.units + 1 < cLine := by have := hr.un; omega
  show wpAny _ _ (richCompare .NotEq (.ref a) u) _ _ _
  refine ne_K hu I.kIn J (Z.ty _ _ I.kIn p) hn hm hne hs hf ?_
  have hl : ([Value.ref a, u] ++ ([] : List Value)).length = [p1, p2].length := rfl
  refine wpAny_call (codeAny_mono (F.run X.A.in1 X.stack s H ⟨[.ref a, u], []⟩ [.ref a, u] [.ref a, y] _ E hr.in1 I.env0.in1 (hb s [.ref a, u] I.kIn hl) (.cons rfl (.cons ry .nil)) q) fun res s' hs' => ?_)
  match res, hs' with
  | .error er, hs' => exact hx pins σ H s er s' I hs'
  | .ok (.ret z), hs' =>
    obtain ⟨v2, H', I', rz, c, rfl, qz⟩ := I.after hs'
    cases (show z = Value.bool c from rz)
    exact ⟨c, rfl, .bl (!c), H', I', rfl, qz⟩
  | .ok .next, hs' => exact hs'.elim
  | .ok .brk, hs' => exact hs'.elim
  | .ok .cont, hs' => exact hs'.elim
end
end Lw

set_option Elab.async false
set_option linter.all false
set_option maxRecDepth 100000
set_option maxHeartbeats 4000000
/-! enumerate over a tuple. -/
namespace Lw
open PySem PySem.Spec PyProof.Rows L2
theorem meets_enum1 {v : Value} {o : Obj} {G : Heap → Prop} (B : Begins v o G) :
    Meets (Builtin.«enumerate.__new__» ⟨[.type "enumerate", v], []⟩) (fun _ R s => G s.heap ∧
      R (.ok (.ret (.ref (s.heap.push o).objs.size))) { s with heap := (s.heap.push o).push { cls := .type "enumerate", data := .fields #[.none, .bool false, .ref s.heap.objs.size, rawInt 0, .none, .none] } }) :=
  .of_wp fun prog w A R s hs => by
    obtain ⟨hh, gs, dr, t, os⟩ := s
    obtain ⟨g1, r1⟩ := hs
    have sb := sub_enumerate
    have it : ∀ {A' : Around} {E : Value → Shared → Prop} {Q : Value → Shared → Prop}, Q (.ref hh.objs.size) ⟨hh.push o, gs, dr, t, os⟩ → wpAny (model prog w) A' (pyIter v) Q E ⟨hh, gs, dr, t, os⟩ := fun q => B.iter prog w _ _ ⟨hh, gs, dr, t, os⟩ _ g1 q
    wp_walk using it
    refine wpAny_stack_any fun st => wpAny_pure ?_
    split
    · rename_i tp _ _ _ _ _
      by_cases z : (tp == Value.type "enumerate") = true
      · rw [z]
        wp_walk using it
        exact ⟨_, rfl, r1⟩
      · rw [Bool.eq_false_iff.mpr z]
        wp_walk using it
        exact ⟨_, rfl, r1⟩
    · wp_walk using it
      exact ⟨_, rfl, r1⟩
theorem call_enum1 {prog : Program} {w : World} {A : Around} {E : Value → Shared → Prop} {s : Shared} {v : Value} {o : Obj} {G : Heap → Prop} {Q : Value → Shared → Prop} (B : Begins v o G) (h1 : G s.heap)
    (h : ∀ h', IsEnum h' (s.heap.objs.size + 1) s.heap.objs.size 0 .none → h'.get? s.heap.objs.size = some o → (∀ b u, s.heap.get? b = some u → h'.get? b = some u) → Q (.ref (s.heap.objs.size + 1)) { s with heap := h' }) :
    wpAny (model prog w) A (call (.type "enumerate") [v]) Q E s := by
  refine callType_new F.called_enumerate (by decide) (F.typeCall_enumerate_1 _) (F.newCall_enumerate_1 _) (fun obj => F.args_object_init_2 obj _) F.entry_enumerate_new (meets_enum1 B) ⟨h1, ?_⟩
  have sz : (s.heap.push o).objs.size = s.heap.objs.size + 1 := Heap.size_push ..
  have at_ : IsEnum ((s.heap.push o).push { cls := .type "enumerate", data := .fields #[.none, .bool false, .ref s.heap.objs.size, rawInt 0, .none, .none] }) (s.heap.objs.size + 1) s.heap.objs.size 0 .none := by
    rw [← sz]
    exact Heap.get?_push_size (s.heap.push o) rfl
  rw [sz]
  exact ⟨⟨_, at_, rfl⟩, h _ at_ (Heap.get?_push_of_some _ (Heap.get?_push_size _ B.free)) fun b u z => Heap.get?_push_of_some _ (Heap.get?_push_of_some _ z)⟩
/-- the tuple at a, each item in a new pair -/
def IteT (K : PySem.W.Frag) (a : Addr) : It :=
  ⟨fun i H => ∃ (xs : List V) (x : V), SqT K H a xs ∧ xs[i]? = some x, fun i H v H' => ∃ T x, v = .ref T ∧ H T = none ∧ H' = upd H T (.tup [.int (i : Nat), x]) ∧ ∀ xs, SqT K H a xs → xs[i]? = some x, fun i H => ∃ xs : List V, SqT K H a xs ∧ xs.length = i⟩
theorem turn_enumT {P : Program} {w : World} {K : PySem.W.Frag} {elts : List Expr} {kk : Nat} {tpos : Pos} (a e it : Addr) :
    Turn P w K (.Tuple elts kk tpos) (IteT K a) [e, it] e (fun i h => (∃ old, IsEnum h e it ((i : Nat) : Int) old) ∧ h.IsTupleIter it a i ∧ e ≠ it ∧ a ≠ it ∧ e ≠ a) where
  mem := List.mem_cons_self
  obj := fun i h st b hb => by
    obtain ⟨⟨old, he⟩, ⟨o, ho, hc, hd⟩, _⟩ := st
    rcases List.mem_cons.mp hb with z | z
    · rw [z]; exact ⟨_, he, fun v q => nomatch q⟩
    · rw [List.mem_singleton.mp z]; exact ⟨o, ho, fun v q => by rw [hd] at q; cases q⟩
  keep := fun i h h' st k => by
    obtain ⟨⟨old, he⟩, hi, n1, n2, n3⟩ := st
    exact ⟨⟨old, k e (by simp) _ he⟩, hi.at fun o q => k it (by simp) o q, n1, n2, n3⟩
  item := by
    intro X hP hw hK hc i pins s σ H E I hf st hg
    subst hP hw hK
    obtain ⟨⟨old, he⟩, hit, n1, n2, n3⟩ := st
    obtain ⟨xs, x, hq, hx⟩ := hg
    obtain ⟨its, rv, p, _⟩ := I.tuple hq
    obtain ⟨u, hu, ru⟩ := rv.get hx
    have hel : e < s.heap.objs.size := Heap.lt_size he
    have hil : it < s.heap.objs.size := by obtain ⟨_, q, _⟩ := hit; exact Heap.lt_size q
    have hlt : i < its.toArray.size := by
      have := (List.getElem?_eq_some_iff.mp hu).1
      simpa using this
    refine wpAny_pyNext_enum_itemC (Draws.tuple (A := X.A.in1) (I.ok.hd hc) it a n2 its.toArray) he ⟨hit, p⟩ hlt n1 (by simp [n1, n3]) fun y h' tk hy ho st' hT hsz hk => ?_
    have ey : y = u := by
      have hy' : its[i]? = some y := by simpa using hy
      rw [hu] at hy'
      exact (Option.some.inj hy').symm
    subst ey
    refine ⟨_, rfl, wpAny_letOwnedTupleGo_enum (s := { s with heap := h', toks := tk + 1 }) ho fun h'' he' sb => ?_⟩
    have gT : h''.get? s.heap.objs.size = some { cls := .type "tuple", data := .seq #[.int i tk, y] } := (sb.2 _ (Nat.ne_of_gt hel)).trans hT
    have new : ObjOk X.prog X.w (upd H s.heap.objs.size (.tup [.int (i : Nat), x])) h'' s.heap.objs.size (.tup [.int (i : Nat), x]) :=
      ⟨by show 2 ≤ sizeLine; decide, [.int i tk, y], .cons ⟨_, rfl⟩ (.cons ru .nil), ⟨_, gT, rfl, _, rfl⟩⟩
    have old2 : ∀ b ob, b ∉ [e, it] → s.heap.get? b = some ob → h''.get? b = some ob := fun b ob hb q => (sb.2 b (fun z => hb (by simp [z]))).trans (hk b ob (fun z => hb (by simp [z])) (fun z => hb (by simp [z])) q)
    have I1 : Inv X pins σ (upd H s.heap.objs.size (.tup [.int (i : Nat), x])) { s with heap := h'', toks := tk + 1 } := I.turnedNew (ch := [e, it]) old2 hf (Nat.le_refl _) new
    refine ⟨.ref s.heap.objs.size, _, I1, rfl, ⟨_, x, rfl, I.hok.fresh (Nat.le_refl _), rfl, fun ys hy => by rw [I.tuple_inj hy hq]; exact hx⟩, ⟨⟨y, ?_⟩, st'.1.at fun o q => (sb.2 it (Ne.symm n1)).trans q, n1, n2, n3⟩, fun b hb => ?_⟩
    · rw [show ((i + 1 : Nat) : Int) = (i : Int) + 1 by omega]
      exact he'
    · have lb : b < s.heap.objs.size := by
        rcases List.mem_cons.mp hb with z | z
        · rw [z]; exact hel
        · rw [List.mem_singleton.mp z]; exact hil
      rw [upd_ne (Nat.ne_of_lt lb)]
      exact (hf b hb).1
  done := by
    intro X hP hw hK hc i pins s σ H E I hf st hg
    subst hP hw hK
    obtain ⟨⟨old, he⟩, hit, n1, n2, n3⟩ := st
    obtain ⟨xs, hq, hx⟩ := hg
    obtain ⟨its, rv, p, _⟩ := I.tuple hq
    obtain ⟨f0, f1, f2, f3, f4, f5⟩ := hf it (by simp)
    have hl := rv.length
    have hn : its.toArray.size = i := by simp; omega
    have D := Draws.tuple (prog := X.prog) (w := X.w) (A := X.A.in1) (I.ok.hd hc) it a n2 its.toArray
    rw [hn] at D
    exact wpAny_pyNext_enum_endD D he ⟨hit, p⟩ fun h' eb => ⟨rfl, I.turned (t' := s.toks) (fun b o hb q => eb b o hb q) f0 f1 f3 f4 f5⟩
  self := fun A i s Q E st h => by
    obtain ⟨⟨_, he⟩, _⟩ := st
    exact wpAny_pyIter_enum he h
def iEnumT (K : PySem.W.Frag) (ta : TA) : TI := fun σ H R => ta σ H fun vs H1 => ∃ a xs, vs = [.ref a] ∧ SqT K H1 a xs ∧ R (IteT K a) H1
theorem pi_enumT {X : Cx} {e : Expr} {ta : TA} {p pos tpos : Pos} {elts : List Expr} {kk : Nat} (hg : Gl X "enumerate") (hm : X.mg "enumerate" = none) (ha : PA X [e] ta) (hs : starEach [e] X.env = [(false, eval e X.env)] := by rfl) :
    PI X (.Tuple elts kk tpos) (.Call (.Name "enumerate" p) [e] [] pos) (iEnumT X.K ta) := by
  refine ⟨fun pins s σ H R I h => Call_ (ld_blt I hg hm boot_enumerate (PyProof.Rows.callWith_type1 (thn (ha.run pos pins s σ H _ I h) fun us s1 hh => ?_) hs rfl))⟩
  obtain ⟨vs, H1, I1, r1, a, xs, rfl, hq, q⟩ := hh
  obtain ⟨u, rfl, ru⟩ := r1.one
  cases (show u = Value.ref a from ru)
  obtain ⟨its, rv, pt, hz⟩ := I1.tuple hq
  have hal : a < s1.heap.objs.size := by obtain ⟨o, ho, _⟩ := pt; exact Heap.lt_size ho
  refine call_enum1 (begins_tuple a its.toArray) pt fun h' he hi hk => wpAny_pyIter_enum he ?_
  have I2 : Inv X pins σ H1 { s1 with heap := h' } := I1.kept (t' := s1.toks) hk
  refine ⟨s1.heap.objs.size + 1, [s1.heap.objs.size + 1, s1.heap.objs.size], _, _, H1, rfl, I2, turn_enumT a (s1.heap.objs.size + 1) s1.heap.objs.size, ⟨⟨.none, he⟩, ⟨_, hi, rfl, rfl⟩, Nat.succ_ne_self _, Nat.ne_of_lt hal, Nat.ne_of_gt (Nat.lt_succ_of_lt hal)⟩, fun b hb => ?_, q⟩
  have big : s1.heap.objs.size ≤ b := by
    rcases List.mem_cons.mp hb with z | z
    · rw [z]; exact Nat.le_succ _
    · exact Nat.le_of_eq (List.mem_singleton.mp z).symm
  exact I1.fpOk big (I1.hok.fresh big)
theorem walk_enumT {K : PySem.W.Frag} {a : Addr} {xs : List V} : Walk (IteT K a) xs.length (fun H => SqT K H a xs) (YPair (fun i => some (.int (i : Nat))) (fun i => xs[i]?)) := by
  refine ⟨fun i _ hi q => ⟨xs, xs[i], q, by simp [hi]⟩, fun _ q => ⟨xs, q, rfl⟩, fun i H v H' _ q y => ?_⟩
  obtain ⟨T, x, h1, h2, h3, h4⟩ := y
  exact ⟨T, .int (i : Nat), x, h1, h2, h3, rfl, h4 xs q⟩
end Lw

set_option Elab.async false
set_option linter.all false
set_option maxRecDepth 100000
set_option maxHeartbeats 4000000
/-! list(zip(t, u)) of two tuples: the pairs stay out in the list. -/
namespace Lw
open PySem PySem.Spec PyProof.Rows L2 RZ
section
variable {prog : Program} {w : World} {A : Around} {E : Value → Shared → Prop} {s : Shared} {z TI TO T i1 i2 l1 l2 : Addr} {f : Bool} {oT : Obj} {k1 k2 : Nat} {xs ys : Array Value}
/-- a pair is out: the next one is a new one -/
theorem heldT_item {x y : Value} {Q : Value → Shared → Prop} (D : ZipApart z TI TO i1 i2 l1 l2) (hz : IsZipHeld s.heap z TI TO T f) (hT : s.heap.get? T = some oT) (hp : IsPair s.heap TI (.ref i1) (.ref i2))
    (a1 : s.heap.IsTupleIter i1 l1 k1) (a2 : s.heap.IsTupleIter i2 l2 k2) (b1 : s.heap.IsTuple l1 xs) (b2 : s.heap.IsTuple l2 ys) (hx : xs[k1]? = some x) (hy : ys[k2]? = some y)
    (hQ : ∀ h', IsZipHeld h' z TI TO T true → h'.IsTupleIter i1 l1 (k1 + 1) → h'.IsTupleIter i2 l2 (k2 + 1) → IsPair h' s.heap.objs.size x y → h'.objs.size = s.heap.objs.size + 1 →
      (∀ c o, c ≠ z → c ≠ i1 → c ≠ i2 → s.heap.get? c = some o → h'.get? c = some o) → Q (.ref s.heap.objs.size) { s with heap := h' }) :
    wpAny (model prog w) A (Builtin.«zip.__next__» ⟨[.ref z], []⟩) (fun fin s' => ∃ v, fin = .done (.ret v) ∧ Q v s') E s := by
  show wpAny _ A (field (.ref z) 2 >>= _) _ E s
  refine wpAny_bind (wpAny_field (x := .bool false) hz rfl rfl ?_)
  show wpAny _ A (field (.ref z) 3 >>= _) _ E s
  refine wpAny_bind (wpAny_field (x := .ref TI) hz rfl rfl (wpAny_bind (wpAny_seqItems hp rfl ?_)))
  show wpAny _ A (Builtin.SmallTypes.ownedTupleIsFree (.ref z) >>= _) _ E s
  refine wpAny_bind (wpAny_tupleHeld_zip hz hT fun g1 z1 e1 => ?_)
  rw [if_neg Bool.false_ne_true]
  refine wpAny_bind ?_
  rw [← Array.forIn_toList]
  simp only [List.forIn_nil, List.forIn_cons]
  refine wpAny_bind (wpAny_bind (wpAny_holding ?_))
  show wpAny _ A (Builtin.SmallTypes.nextOf (.ref i1) >>= _) _ E _
  refine wpAny_bind (nextOf_tuple_item (s := { s with heap := g1 }) (a1.extBut e1.extBut D.i1z) (b1.extBut e1.extBut D.l1z) hx fun g2 c1 e2 => wpAny_pure (wpAny_pure ?_))
  refine wpAny_bind (wpAny_bind (wpAny_holding ?_))
  show wpAny _ A (Builtin.SmallTypes.nextOf (.ref i2) >>= _) _ E _
  refine wpAny_bind (nextOf_tuple_item (s := { s with heap := g2 }) ((a2.extBut e1.extBut D.i2z).extBut e2.extBut D.i12.symm) ((b2.extBut e1.extBut D.l2z).extBut e2.extBut D.l2i1) hy fun g3 c2 e3 => wpAny_pure (wpAny_pure (wpAny_pure ?_)))
  show wpAny _ A (newTuple [x, y] >>= _) _ E _
  refine wpAny_bind (wpAny_newTuple ?_)
  have n3 : g3.objs.size = s.heap.objs.size := (e3.1.trans e2.1).trans e1.1
  have z3 : IsZipHeld g3 z TI TO T true := e3.extBut _ _ D.i2z.symm (e2.extBut _ _ D.i1z.symm z1)
  have k3 : ∀ c o, c ≠ z → c ≠ i1 → c ≠ i2 → s.heap.get? c = some o → g3.get? c = some o := fun c o n1 n2 n4 q => e3.extBut _ _ n4 (e2.extBut _ _ n2 (e1.extBut _ _ n1 q))
  have c3 : g3.IsTupleIter i1 l1 (k1 + 1) := c1.extBut e3.extBut D.i12
  refine wpAny_pure ⟨_, rfl, ?_⟩
  show Q (.ref g3.objs.size) _
  have pn : IsPair (g3.push { cls := .type "tuple", data := .seq #[x, y] }) g3.objs.size x y := Heap.get?_push_size g3 rfl
  have pz : (g3.push { cls := .type "tuple", data := .seq #[x, y] }).objs.size = g3.objs.size + 1 := Heap.size_push ..
  rw [n3] at pn pz ⊢
  exact hQ _ (Heap.get?_push_of_some _ z3) (c3.at fun _ q => Heap.get?_push_of_some _ q) (c2.at fun _ q => Heap.get?_push_of_some _ q) pn pz fun c o n1 n2 n4 q => Heap.get?_push_of_some _ (k3 c o n1 n2 n4 q)
theorem heldT_end {Q : Fin → Shared → Prop} (hh : A.handled = none) (D : ZipApart z TI TO i1 i2 l1 l2) (hz : IsZipHeld s.heap z TI TO T f) (hT : s.heap.get? T = some oT) (hp : IsPair s.heap TI (.ref i1) (.ref i2))
    (a1 : s.heap.IsTupleIter i1 l1 k1) (b1 : s.heap.IsTuple l1 xs) (hx : xs[k1]? = none)
    (hE : ∀ h' e, (∀ c o, c ≠ z → c ≠ i1 → c ≠ i2 → s.heap.get? c = some o → h'.get? c = some o) → (∃ o, h'.get? e = some o ∧ o.cls = .type "StopIteration") → E (.ref e) { s with heap := h' }) :
    wpAny (model prog w) A (Builtin.«zip.__next__» ⟨[.ref z], []⟩) Q E s := by
  show wpAny _ A (field (.ref z) 2 >>= _) Q E s
  refine wpAny_bind (wpAny_field (x := .bool false) hz rfl rfl ?_)
  show wpAny _ A (field (.ref z) 3 >>= _) Q E s
  refine wpAny_bind (wpAny_field (x := .ref TI) hz rfl rfl (wpAny_bind (wpAny_seqItems hp rfl ?_)))
  show wpAny _ A (Builtin.SmallTypes.ownedTupleIsFree (.ref z) >>= _) Q E s
  refine wpAny_bind (wpAny_tupleHeld_zip hz hT fun g1 z1 e1 => ?_)
  rw [if_neg Bool.false_ne_true]
  refine wpAny_bind ?_
  rw [← Array.forIn_toList]
  simp only [List.forIn_nil, List.forIn_cons]
  refine wpAny_bind (wpAny_bind (wpAny_holding ?_))
  show wpAny _ A (Builtin.SmallTypes.nextOf (.ref i1) >>= _) _ E _
  exact wpAny_bind (nextOf_tuple_end (s := { s with heap := g1 }) hh (a1.extBut e1.extBut D.i1z) (b1.extBut e1.extBut D.l1z) hx fun g2 e e2 he => hE g2 e (fun c o n1 n2 _ q => e2 _ _ n2 (e1.extBut _ _ n1 q)) he)
theorem next_heldT {x y : Value} {Q : Option Value → Shared → Prop} (D : ZipApart z TI TO i1 i2 l1 l2) (hz : IsZipHeld s.heap z TI TO T f) (hT : s.heap.get? T = some oT) (hp : IsPair s.heap TI (.ref i1) (.ref i2))
    (a1 : s.heap.IsTupleIter i1 l1 k1) (a2 : s.heap.IsTupleIter i2 l2 k2) (b1 : s.heap.IsTuple l1 xs) (b2 : s.heap.IsTuple l2 ys) (hx : xs[k1]? = some x) (hy : ys[k2]? = some y)
    (hQ : ∀ h', IsZipHeld h' z TI TO T true → h'.IsTupleIter i1 l1 (k1 + 1) → h'.IsTupleIter i2 l2 (k2 + 1) → IsPair h' s.heap.objs.size x y → h'.objs.size = s.heap.objs.size + 1 →
      (∀ c o, c ≠ z → c ≠ i1 → c ≠ i2 → s.heap.get? c = some o → h'.get? c = some o) → Q (some (.ref s.heap.objs.size)) { s with heap := h' }) : wpAny (model prog w) A (pyNext (.ref z)) Q E s := by
  have ty : s.TypeIs (.ref z) "zip" := ⟨_, hz, rfl⟩
  unfold pyNext
  refine wpAny_bind (wpAny_attempt (wpAny_callSpecial?_slot (name := Str.ofString "__next__") ty F.slot_zip_next (wpAny_call_entry F.slot_zip_next ty F.entry_zip_next ?_ (F.args_zip_next_1 _))))
  exact heldT_item D hz hT hp a1 a2 b1 b2 hx hy fun h' y1 y2 y3 y4 y5 y6 => wpAny_pure (hQ h' y1 y2 y3 y4 y5 y6)
theorem next_heldT_end {Q : Option Value → Shared → Prop} (hh : A.handled = none) (D : ZipApart z TI TO i1 i2 l1 l2) (hz : IsZipHeld s.heap z TI TO T f) (hT : s.heap.get? T = some oT) (hp : IsPair s.heap TI (.ref i1) (.ref i2))
    (a1 : s.heap.IsTupleIter i1 l1 k1) (b1 : s.heap.IsTuple l1 xs) (hx : xs[k1]? = none)
    (hQ : ∀ h', (∀ c o, c ≠ z → c ≠ i1 → c ≠ i2 → s.heap.get? c = some o → h'.get? c = some o) → Q none { s with heap := h' }) : wpAny (model prog w) A (pyNext (.ref z)) Q E s := by
  have ty : s.TypeIs (.ref z) "zip" := ⟨_, hz, rfl⟩
  unfold pyNext
  refine wpAny_bind (wpAny_attempt (wpAny_callSpecial?_slot (name := Str.ofString "__next__") ty F.slot_zip_next (wpAny_call_entry F.slot_zip_next ty F.entry_zip_next ?_ (F.args_zip_next_1 _))))
  refine heldT_end hh D hz hT hp a1 b1 hx fun h' e hk he => ?_
  obtain ⟨o, ho, hc⟩ := he
  exact wpAny_bind (wpAny_isInstance (T := "StopIteration") (b := true) ⟨o, ho, hc⟩ isSubtype_stop (wpAny_pure (hQ h' hk)))
end
theorem zip_nolen : typeLookup (.type "zip") "__len__" = pure none := am_miss_of_fast (by decide +kernel)
theorem zip_nohint : typeLookup (.type "zip") "__length_hint__" = pure none := am_miss_of_fast (by decide +kernel)
/-- where the zip stands behind i turns -/
def ZipAt (h : Heap) (z TI TO i1 i2 a b q : Addr) (i : Nat) : Prop :=
  IsPair h TI (.ref i1) (.ref i2) ∧ h.IsTupleIter i1 a i ∧ h.IsTupleIter i2 b i ∧ ((IsZip h z TI TO .none ∧ ∃ x y, IsPair h TO x y) ∨ ∃ T f oT, IsZipHeld h z TI TO T f ∧ h.get? T = some oT ∧ T ≠ z ∧ T ≠ i1 ∧ T ≠ i2 ∧ T ≠ q ∧ ∃ o, h.get? TO = some o)
theorem ZipAt.keep {h h' : Heap} {z TI TO i1 i2 a b q : Addr} {i : Nat} (st : ZipAt h z TI TO i1 i2 a b q i) (d1 : q ≠ z) (d2 : q ≠ TI) (d3 : q ≠ TO) (d4 : q ≠ i1) (d5 : q ≠ i2) (k : ∀ c o, c ≠ q → h.get? c = some o → h'.get? c = some o) : ZipAt h' z TI TO i1 i2 a b q i := by
  obtain ⟨x1, x2, x3, x4⟩ := st
  refine ⟨k _ _ d2.symm x1, x2.at fun o e => k _ o d4.symm e, x3.at fun o e => k _ o d5.symm e, ?_⟩
  rcases x4 with ⟨hz, x, y, hT⟩ | ⟨T, f, oT, hz, hT, r⟩
  · exact .inl ⟨k _ _ d1.symm hz, x, y, k _ _ d3.symm hT⟩
  · obtain ⟨r1, r2, r3, r4, o, hO⟩ := r
    exact .inr ⟨T, f, oT, k _ _ d1.symm hz, k _ _ r4 hT, r1, r2, r3, r4, o, k _ _ d3.symm hO⟩
/-- the pairs so far -/
def PairsAt (H0 H : Hp) (Ts : List Addr) (ps : List (V × V)) : Prop := Paired (fun T p => H0 T = none ∧ H T = some (.tup [p.1, p.2])) Ts ps
theorem PairsAt.same {H0 H H' : Hp} {Ts : List Addr} {ps : List (V × V)} (h : PairsAt H0 H Ts ps) (e : ∀ T x, H0 T = none → H T = some (.tup x) → H' T = some (.tup x)) : PairsAt H0 H' Ts ps := by
  unfold PairsAt at h ⊢
  induction h with
  | nil => exact .nil
  | cons r _ ih => exact .cons ⟨r.1, e _ _ r.1 r.2⟩ ih
theorem paired_snoc {α β : Type} {F : α → β → Prop} {a : α} {b : β} : ∀ {l : List α} {m : List β}, Paired F l m → F a b → Paired F (l ++ [a]) (m ++ [b])
  | _, _, .nil, r => .cons r .nil
  | _, _, .cons h t, r => .cons h (paired_snoc t r)
section
variable {X : Cx} {pins : List (Addr × Obj)} {σ : L2.St} {A1 : Around} {a b z TI TO i1 i2 q : Addr} {xs ys : List V} {H0 : Hp} {Rs : Result → Shared → Prop}
theorem zip_loop (hh : A1.handled = none) (D : ZipApart z TI TO i1 i2 a b) (d1 : q ≠ z) (d2 : q ≠ TI) (d3 : q ≠ TO) (d4 : q ≠ i1) (d5 : q ≠ i2) (hl : xs.length = ys.length) (hz0 : xs.length < sizeLine)
    (hdone : ∀ (Ts : List Addr) (H : Hp) (s : Shared), Inv X pins σ H s → Same H0 H → H q = some (.lst (Ts.map V.ref)) → PairsAt H0 H Ts (xs.zip ys) → Rs (.ok (.ret .none)) s) (hq0 : H0 q = none) (ha0 : SqT X.K H0 a xs) (hb0 : SqT X.K H0 b ys) :
    ∀ (k i : Nat) (Ts : List Addr) (H : Hp) (s : Shared), xs.length - i = k → i ≤ xs.length → Inv X pins σ H s → Same H0 H → H q = some (.lst (Ts.map V.ref)) → PairsAt H0 H Ts ((xs.zip ys).take i) →
      (∀ c ∈ [z, TO, i1, i2], FpOk X pins H c) → ZipAt s.heap z TI TO i1 i2 a b q i → codeAny (model X.prog X.w) A1 (.builtin "list.extend.loop" ⟨[.ref q, .ref z, .none], []⟩) Rs s := by
  intro k
  induction k with
  | zero =>
    intro i Ts H s hk hi I sm hq hP hf st
    have hin : i = xs.length := by omega
    subst hin
    obtain ⟨x1, x2, x3, x4⟩ := st
    obtain ⟨its, rv, p, _⟩ := I.tuple (sqT_same sm ha0)
    obtain ⟨its2, rv2, p2, _⟩ := I.tuple (sqT_same sm hb0)
    have hn : its.toArray[xs.length]? = none := by simp [rv.length]
    have fin : ∀ h', (∀ c o, c ∉ [z, TO, i1, i2] → s.heap.get? c = some o → h'.get? c = some o) → Rs (.ok (.ret .none)) { s with heap := h' } := fun h' kp => by
      refine hdone Ts H _ (I.turnedL (t' := s.toks) (ch := [z, TO, i1, i2]) (fun c o n e => kp c o n e) hf) sm hq ?_
      have e : (xs.zip ys).take xs.length = xs.zip ys := List.take_of_length_le (by rw [List.length_zip]; omega)
      rw [e] at hP
      exact hP
    refine codeAny_builtin PySem.F.entry_extend_loop ?_
    rw [Around.under_plainId PySem.F.plain_extend_loop _]
    show wpAny _ A1.in1 (pyNext (.ref z) >>= _) _ _ s
    refine wpAny_bind ?_
    rcases x4 with ⟨hz, x, y, hT⟩ | ⟨T, f, oT, hz, hT, r⟩
    · exact pyNext_zipT_end hh D hz x1 hT x2 x3 p p2 (.inl hn) fun h' kp => wpAny_pure (fin h' fun c o n e => kp c o (fun z => n (by simp [z])) (fun z => n (by simp [z])) (fun z => n (by simp [z])) (fun z => n (by simp [z])) e)
    · exact next_heldT_end hh D hz hT x1 x2 p hn fun h' kp => wpAny_pure (fin h' fun c o n e => kp c o (fun z => n (by simp [z])) (fun z => n (by simp [z])) (fun z => n (by simp [z])) e)
  | succ k ih =>
    intro i Ts H s hk hi I sm hq hP hf st
    have hlt : i < xs.length := by omega
    have hlt2 : i < ys.length := by omega
    obtain ⟨x1, x2, x3, x4⟩ := st
    obtain ⟨its, rv, p, _⟩ := I.tuple (sqT_same sm ha0)
    obtain ⟨its2, rv2, p2, _⟩ := I.tuple (sqT_same sm hb0)
    obtain ⟨u, hu, ru⟩ := rv.get (List.getElem?_eq_getElem hlt)
    obtain ⟨u2, hu2, ru2⟩ := rv2.get (List.getElem?_eq_getElem hlt2)
    have lenT : Ts.length = i := by
      have e := paired_len hP
      rw [List.length_take, List.length_zip] at e
      omega
    have qT : ∀ c : Addr, H c = none → c ≠ q := fun c hc e => by rw [e, hq] at hc; cases hc
    -- what follows a turn that handed out a new pair
    have turn : ∀ h' : Heap, (∀ c o, c ∉ [z, TO, i1, i2] → s.heap.get? c = some o → h'.get? c = some o) → IsPair h' s.heap.objs.size u u2 → ZipAt h' z TI TO i1 i2 a b q (i + 1) →
        wpAny (model X.prog X.w) A1.in1 (updateSeq q (·.push (.ref s.heap.objs.size)) >>= fun _ => again (.builtin "list.extend.loop" ⟨[.ref q, .ref z, .none], []⟩))
          (fun fin s' => match fin with | .done f => Rs (.ok f) s' | .again c' => c'.quiet = true ∧ codeAny (model X.prog X.w) A1 c' Rs s') (fun e s' => Rs (.error e) s') { s with heap := h' } := fun h' kp pn st' => by
      have new : ObjOk X.prog X.w (upd H s.heap.objs.size (.tup [xs[i], ys[i]])) h' s.heap.objs.size (.tup [xs[i], ys[i]]) := ⟨by show 2 ≤ sizeLine; decide, [u, u2], .cons ru (.cons ru2 .nil), ⟨_, pn, rfl, _, rfl⟩⟩
      have nT : H s.heap.objs.size = none := I.hok.fresh (Nat.le_refl _)
      have I1 : Inv X pins σ (upd H s.heap.objs.size (.tup [xs[i], ys[i]])) { s with heap := h' } := I.turnedNew (t' := s.toks) (ch := [z, TO, i1, i2]) kp hf (Nat.le_refl _) new
      have hq1 : upd H s.heap.objs.size (.tup [xs[i], ys[i]]) q = some (.lst (Ts.map V.ref)) := by rw [upd_ne (qT _ nT).symm]; exact hq
      obtain ⟨_, jts, kk, r2, hl2, e⟩ := I1.lstM hq1
      have I2 := I1.lset (f := (·.push (.ref s.heap.objs.size))) (its' := jts ++ [.ref s.heap.objs.size]) (ys := Ts.map V.ref ++ [.ref s.heap.objs.size]) (t' := s.toks) hq1 e (by simp) (r2.append (.cons (show RelV (V.ref s.heap.objs.size) (Value.ref s.heap.objs.size) from rfl) .nil)) (by rw [List.length_append, List.length_map]; simp; omega)
      have hjl : jts.length = i := by rw [← hl2, List.length_map, lenT]
      refine wpAny_bind (wpAny_updateSeq e rfl (wpAny_pure ⟨plainId_quiet PySem.F.plain_extend_loop _, ?_⟩) (by rw [List.size_toArray]; omega) (by show (jts.toArray.push _).size ≤ sizeLine + 1; rw [Array.size_push, List.size_toArray]; omega))
      have T0 : H0 s.heap.objs.size = none := by
        cases h0 : H0 s.heap.objs.size with
        | none => rfl
        | some o => exact (ne_of_none (sm _ _ h0) nT rfl).elim
      refine ih (i + 1) (Ts ++ [s.heap.objs.size]) _ _ (by omega) hlt I2 (fun c o e0 => ?_) ?_ ?_ (fun c hc => ?_) (st'.keep d1 d2 d3 d4 d5 fun c o n e' => (Heap.get?_update_other _ _ (Ne.symm n)).trans e')
      · rw [upd_ne (fun e' : c = q => by rw [e', hq0] at e0; cases e0), upd_ne (ne_of_none (sm _ _ e0) nT)]
        exact sm _ _ e0
      · rw [upd_same, List.map_append]
        rfl
      · have hz : (xs.zip ys)[i]? = some (xs[i], ys[i]) := by rw [List.getElem?_zip_eq_some]; exact ⟨List.getElem?_eq_getElem hlt, List.getElem?_eq_getElem hlt2⟩
        rw [List.take_succ, hz]
        refine paired_snoc (hP.same fun T x n e' => ?_) ⟨T0, ?_⟩
        · have nq : T ≠ q := fun z => by rw [z, hq] at e'; cases e'
          rw [upd_ne nq, upd_ne (ne_of_none e' nT)]
          exact e'
        · rw [upd_ne (qT _ nT), upd_same]
      · have f := hf c hc
        obtain ⟨f0, f1, f2, f3, f4, f5⟩ := f
        refine ⟨?_, f1, f2, f3, f4, f5⟩
        have nq : c ≠ q := qT c f0
        rw [upd_ne nq]
        have lt : c < s.heap.objs.size := by
          simp only [List.mem_cons, List.not_mem_nil, or_false] at hc
          obtain ⟨o1, q1, _⟩ := x2
          obtain ⟨o2, q2, _⟩ := x3
          rcases hc with rfl | rfl | rfl | rfl
          · rcases x4 with ⟨hz, _⟩ | ⟨T, f, oT, hz, _⟩
            · exact Heap.lt_size hz
            · exact Heap.lt_size hz
          · rcases x4 with ⟨hz, x, y, hT⟩ | ⟨T, f, oT, hz, _, _, _, _, _, o, hO⟩
            · exact Heap.lt_size hT
            · exact Heap.lt_size hO
          · exact Heap.lt_size q1
          · exact Heap.lt_size q2
        rw [upd_ne (Nat.ne_of_lt lt)]
        exact f0
    have lt : ∀ {c o}, s.heap.get? c = some o → s.heap.objs.size ≠ c := fun e => Nat.ne_of_gt (Heap.lt_size e)
    have m1 : s.heap.objs.size ≠ i1 := let ⟨_, e, _⟩ := x2; lt e
    have m2 : s.heap.objs.size ≠ i2 := let ⟨_, e, _⟩ := x3; lt e
    have m3 : s.heap.objs.size ≠ q := by
      obtain ⟨_, jts, kk, _, _, e⟩ := I.lstM hq
      exact lt e
    refine codeAny_builtin PySem.F.entry_extend_loop ?_
    rw [Around.under_plainId PySem.F.plain_extend_loop _]
    show wpAny _ A1.in1 (pyNext (.ref z) >>= _) _ _ s
    refine wpAny_bind ?_
    rcases x4 with ⟨hz, x, y, hT⟩ | ⟨T, f, oT, hz, hT, r⟩
    · refine pyNext_zipT_item D hz x1 hT x2 x3 p p2 (x := u) (y := u2) (by simpa using hu) (by simpa using hu2) fun h' z' TO' h1' h2' hT' hsz kp => ?_
      refine turn h' (fun c o n e => kp c o (fun z => n (by simp [z])) (fun z => n (by simp [z])) (fun z => n (by simp [z])) (fun z => n (by simp [z])) e) hT' ⟨kp _ _ D.TIz D.TITO D.TIi1 D.TIi2 x1, h1', h2', .inr ⟨s.heap.objs.size, false, _, z', hT', lt hz, m1, m2, m3, _, TO'⟩⟩
    · refine next_heldT D hz hT x1 x2 x3 p p2 (x := u) (y := u2) (by simpa using hu) (by simpa using hu2) fun h' z' h1' h2' hT' hsz kp => ?_
      refine turn h' (fun c o n e => kp c o (fun z => n (by simp [z])) (fun z => n (by simp [z])) (fun z => n (by simp [z])) e) hT' ⟨kp _ _ D.TIz D.TIi1 D.TIi2 x1, h1', h2', .inr ⟨T, true, oT, z', kp _ _ r.1 r.2.1 r.2.2.1 hT, r.1, r.2.1, r.2.2.1, r.2.2.2.1, let ⟨o, hO⟩ := r.2.2.2.2; ⟨o, kp _ _ D.TOz D.TOi1 D.TOi2 hO⟩⟩⟩
/-- list(it), it a zip of two tuples of one length, just made -/
theorem list_zip {A : Around} {E : Value → Shared → Prop} {s : Shared} {H : Hp} {Q : Value → Shared → Prop} (hh : A.handled = none) (D : ZipApart z TI TO i1 i2 a b) (hl : xs.length = ys.length) (hz0 : xs.length < sizeLine) (I : Inv X pins σ H s)
    (ha0 : SqT X.K H a xs) (hb0 : SqT X.K H b ys) (hf : ∀ c ∈ [z, TO, i1, i2], FpOk X pins H c) (hz : IsZip s.heap z TI TO .none) (hp : IsPair s.heap TI (.ref i1) (.ref i2)) (hO : IsPair s.heap TO .none .none)
    (h1 : s.heap.IsTupleIter i1 a 0) (h2 : s.heap.IsTupleIter i2 b 0)
    (hQ : ∀ (q : Addr) (Ts : List Addr) (H' : Hp) (s' : Shared), Inv X pins σ H' s' → Same H H' → H q = none → H' q = some (.lst (Ts.map V.ref)) → PairsAt H H' Ts (xs.zip ys) → Q (.ref q) s') :
    wpAny (model X.prog X.w) A (call (.type "list") [.ref z]) Q E s := by
  refine callType_codes (Q₁ := fun obj s₁ => obj = .ref s.heap.objs.size ∧ s₁ = { s with heap := s.heap.push { cls := .type "list", data := .seq #[] } }) PySem.F.called_list (PySem.F.typeCall_list_1 _) PySem.F.entry_list_init (code_list_new _ ⟨rfl, rfl⟩) fun obj s₁ e1 => ?_
  obtain ⟨rfl, rfl⟩ := e1
  have hS : (s.heap.push { cls := .type "list", data := .seq #[] }).get? s.heap.objs.size = some { cls := .type "list", data := .seq #[] } := Heap.get?_push_size s.heap rfl
  refine ⟨⟨_, hS, rfl⟩, PySem.F.args_list_init_2 _ _, ?_⟩
  have fr : H s.heap.objs.size = none := I.hok.fresh (Nat.le_refl _)
  have I1 : Inv X pins σ (upd H s.heap.objs.size (.lst [])) { s with heap := s.heap.push { cls := .type "list", data := .seq #[] } } := I.lnew (its := []) (t' := s.toks) .nil (Nat.zero_le _)
  have lz : z < s.heap.objs.size := Heap.lt_size hz
  have lTI : TI < s.heap.objs.size := Heap.lt_size hp
  have lTO : TO < s.heap.objs.size := Heap.lt_size hO
  have l1 : i1 < s.heap.objs.size := let ⟨_, e, _⟩ := h1; Heap.lt_size e
  have l2 : i2 < s.heap.objs.size := let ⟨_, e, _⟩ := h2; Heap.lt_size e
  show wpAny _ A.in1.in1 (do let old ← Builtin.List.listItems (.ref s.heap.objs.size); Builtin.List.listUpdate (.ref s.heap.objs.size) (fun _ => #[]); letGo old.toList.reverse; Builtin.List.listExtendWith (.ref s.heap.objs.size) (.ref z) .none) _ _ _
  refine wpAny_bind ?_
  unfold Builtin.List.listItems
  refine wpAny_bind (wpAny_seqItems hS rfl (wpAny_pure ?_))
  show wpAny _ A.in1.in1 (updateSeq s.heap.objs.size (fun _ => #[]) >>= fun _ => letGo (#[] : Array Value).toList.reverse >>= fun _ => Builtin.List.listExtendWith (.ref s.heap.objs.size) (.ref z) .none) _ _ _
  refine wpAny_bind (wpAny_updateSeq hS rfl (wpAny_bind (wpAny_letGo ?_)))
  have I2 := I1.lset (f := fun _ => #[]) (its := []) (its' := []) (ys := []) (t' := s.toks) upd_same hS rfl .nil (Nat.zero_le _)
  rw [upd_upd] at I2
  obtain ⟨_, js, kk, r3, hl3, e3⟩ := I2.lstM upd_same
  cases r3
  have kp : ∀ c o, c < s.heap.objs.size → s.heap.get? c = some o → ((s.heap.push { cls := .type "list", data := .seq #[] }).update s.heap.objs.size (Obj.mapSeq fun _ => #[])).get? c = some o := fun c o n e => (Heap.get?_update_other _ _ (Nat.ne_of_gt n)).trans (Heap.get?_push_of_some _ e)
  have st : ZipAt ((s.heap.push { cls := .type "list", data := .seq #[] }).update s.heap.objs.size (Obj.mapSeq fun _ => #[])) z TI TO i1 i2 a b s.heap.objs.size 0 :=
    ⟨kp _ _ lTI hp, h1.at fun o e => kp _ o l1 e, h2.at fun o e => kp _ o l2 e, .inl ⟨kp _ _ lz hz, .none, .none, kp _ _ lTO hO⟩⟩
  have ty : ({ s with heap := (s.heap.push { cls := .type "list", data := .seq #[] }).update s.heap.objs.size (Obj.mapSeq fun _ => #[]) } : Shared).TypeIs (.ref z) "zip" := ⟨_, kp _ _ lz hz, rfl⟩
  unfold Builtin.List.listExtendWith
  refine wpAny_bind (wpAny_typeOf ty ?_)
  have n1 : Builtin.List.listSameRef (.ref s.heap.objs.size) (.ref z) = false := by simp [Builtin.List.listSameRef, Nat.ne_of_gt lz]
  have n2 : (Value.type "zip" == Value.type "list") = false := by decide
  have n3 : (Value.type "zip" == Value.type "tuple") = false := by decide
  simp only [n1, n2, n3, Bool.or_false, Bool.false_eq_true, if_false]
  refine wpAny_bind (wpAny_pyIter_zip (kp _ _ lz hz) (wpAny_bind (wpAny_holding ?_)))
  unfold Builtin.List.listLengthHint
  refine wpAny_bind (wpAny_specialOf ty zip_nolen ?_)
  show wpAny _ A.in1.in1 (specialOf (Value.ref z) (Str.ofString "__length_hint__") >>= _) _ _ _
  refine wpAny_bind (wpAny_specialOf ty zip_nohint (wpAny_pure ?_))
  show wpAny _ A.in1.in1 (rule "list.extend.makes-room" >>= fun _ => Builtin.List.listTouch (.ref s.heap.objs.size) >>= fun _ => again (.builtin "list.extend.loop" ⟨[.ref s.heap.objs.size, .ref z, .none], []⟩)) _ _ _
  refine wpAny_bind (wpAny_rule (wpAny_bind ?_))
  show wpAny _ A.in1.in1 (updateSeq s.heap.objs.size (·.push .none) >>= fun _ => updateSeq s.heap.objs.size (·.pop)) _ _ _
  refine wpAny_bind (wpAny_updateSeq e3 rfl ?_)
  have I3 := I2.lset (f := (·.push Value.none)) (its' := [Value.none]) (ys := [.non]) (t' := s.toks) upd_same e3 (by simp) (.cons rfl .nil) (by rw [List.length_singleton, sizeLine_eq]; decide)
  rw [upd_upd] at I3
  obtain ⟨_, j4, k4, r4, hl4, e4⟩ := I3.lstM upd_same
  obtain ⟨u4, rfl, ru4⟩ := r4.one
  refine wpAny_updateSeq e4 rfl ?_ (by show 1 ≤ sizeLine; rw [sizeLine_eq]; decide) (by show 0 ≤ sizeLine + 1; exact Nat.zero_le _)
  have I4 := I3.lset (f := (·.pop)) (its := [u4]) (its' := []) (ys := []) (t' := s.toks) upd_same e4 (by rfl) .nil (Nat.zero_le _)
  rw [upd_upd] at I4
  have sm : Same H (upd H s.heap.objs.size (.lst [])) := fun c o e => by rw [upd_ne (ne_of_none e fr)]; exact e
  refine wpAny_pure ⟨plainId_quiet PySem.F.plain_extend_loop _, zip_loop (H0 := H) (A1 := A.in1) hh D (Nat.ne_of_gt lz) (Nat.ne_of_gt lTI) (Nat.ne_of_gt lTO) (Nat.ne_of_gt l1) (Nat.ne_of_gt l2) hl hz0 (fun Ts H' s' I' sm' hq' hP' => ?_) fr ha0 hb0 xs.length 0 [] _ _ rfl (Nat.zero_le _) I4 sm upd_same ?_ (fun c hc => ?_) ?_⟩
  · exact ⟨rfl, hQ _ Ts H' s' I' sm' fr hq' hP'⟩
  · rw [List.take_zero]
    exact .nil
  · obtain ⟨f0, f1, f2, f3, f4, f5⟩ := hf c hc
    have lt : c < s.heap.objs.size := by
      simp only [List.mem_cons, List.not_mem_nil, or_false] at hc
      rcases hc with rfl | rfl | rfl | rfl <;> assumption
    exact ⟨by rw [upd_ne (Nat.ne_of_lt lt)]; exact f0, f1, f2, f3, f4, f5⟩
  · exact (st.keep (Nat.ne_of_gt lz) (Nat.ne_of_gt lTI) (Nat.ne_of_gt lTO) (Nat.ne_of_gt l1) (Nat.ne_of_gt l2) fun c o n e => (Heap.get?_update_other _ _ (Ne.symm n)).trans ((Heap.get?_update_other _ _ (Ne.symm n)).trans e))
end
/-- list(zip(e, e2)), two tuples of one length -/
def tListZip (K : PySem.W.Frag) (ta : TA) : TE := fun σ H Q => ta σ H fun vs H1 => ∃ a b xs ys, vs = [.ref a, .ref b] ∧ SqT K H1 a xs ∧ SqT K H1 b ys ∧ xs.length = ys.length ∧ xs.length < sizeLine ∧
  ∀ (q : Addr) (Ts : List Addr) (H2 : Hp), Same H1 H2 → H1 q = none → H2 q = some (.lst (Ts.map V.ref)) → PairsAt H1 H2 Ts (xs.zip ys) → Q (.ref q) H2
theorem pe_listZip {X : Cx} {e e2 : Expr} {ta : TA} {p p2 pos pos2 : Pos} (hc : X.calm = true) (hg : Gl X "list") (hm : X.mg "list" = none) (hg2 : Gl X "zip") (hm2 : X.mg "zip" = none) (ha : PA X [e, e2] ta)
    (hs0 : starEach [.Call (.Name "zip" p2) [e, e2] [] pos2] X.env = (false, eval (.Call (.Name "zip" p2) [e, e2] [] pos2) X.env) :: starEach [] X.env := by rfl) (hp0 : (backTo pos (starEach [] X.env)).any (·.1) = false := by rfl)
    (hs : starEach [e, e2] X.env = (false, eval e X.env) :: starEach [e2] X.env := by rfl) (hpl : (backTo pos2 (starEach [e2] X.env)).any (·.1) = false := by rfl) :
    PE X (.Call (.Name "list" p) [.Call (.Name "zip" p2) [e, e2] [] pos2] [] pos) (tListZip X.K ta) := by
  refine ⟨fun pins s σ H Q I h => ?_⟩
  have inner : wpAny (model X.prog X.w) X.A (eval (.Call (.Name "zip" p2) [e, e2] [] pos2) X.env) (fun v s1 => wpAny (model X.prog X.w) X.A (call (.type "list") [v]) (EP X pins σ Q) X.xe s1) X.xe s := by
    refine Call_ (ld_blt I hg2 hm2 PyProof.Rows.boot_zip (PyProof.Rows.callWith_type1 (thn (ha.run pos2 pins s σ H _ I h) fun us s1 hh => ?_) hs hpl))
    obtain ⟨vs, H1, I1, r1, a, b, xs, ys, rfl, hqx, hqy, hl, hz, q⟩ := hh
    match us, r1 with
    | [u1, u2], .cons r (.cons r' .nil) =>
      cases (show u1 = Value.ref a from r)
      cases (show u2 = Value.ref b from r')
      obtain ⟨its, rv, p1, _⟩ := I1.tuple hqx
      obtain ⟨its2, rv2, p2, _⟩ := I1.tuple hqy
      obtain ⟨o1, ho1, _⟩ := id p1
      obtain ⟨o2, ho2, _⟩ := id p2
      refine call_zipT (show s1.heap.IsTuple a its.toArray from p1) (show s1.heap.IsTuple b its2.toArray from p2) fun h' hz' hTI hTO h1 h2 hsz hk => ?_
      have I2 : Inv X pins σ H1 { s1 with heap := h' } := I1.kept (t' := s1.toks) hk
      refine list_zip (I1.ok.hd hc) (PySem.W.ktu_apart s1.heap.objs.size a b (Heap.lt_size ho1) (Heap.lt_size ho2)) hl hz I2 hqx hqy (fun c hcm => ?_) hz' hTI hTO h1 h2 fun q' Ts H' s' I' sm nq hq' hP => ⟨.ref q', H', I', rfl, q q' Ts H' sm nq hq' hP⟩
      have hle : s1.heap.objs.size ≤ c := by
        simp only [List.mem_cons, List.not_mem_nil, or_false] at hcm
        rcases hcm with z | z | z | z
        · rw [z]; exact Nat.le_add_right _ _
        · rw [z]; exact Nat.le_add_right _ _
        · rw [z]; exact Nat.le_refl _
        · rw [z]; exact Nat.le_add_right _ _
      exact I1.fpOk hle (I1.hok.fresh hle)
  have args : wpAny (model X.prog X.w) X.A (spliced (backTo pos (starEach [.Call (.Name "zip" p2) [e, e2] [] pos2] X.env))) (fun vs s1 => wpAny (model X.prog X.w) X.A (call (.type "list") vs) (EP X pins σ Q) X.xe s1) X.xe s := by
    rw [hs0]
    show wpAny _ _ (spliced [(false, eval (.Call (.Name "zip" p2) [e, e2] [] pos2) X.env)]) _ _ s
    exact Calls.spliced_cons (thn inner fun v s1 q => Calls.spliced_nil q)
  exact wpAny_Call_Name_kw (ld_blt I hg hm PyProof.Rows.boot_list (PyProof.Rows.callWith_type1 args hs0 hp0))
end Lw

set_option Elab.async false
set_option linter.all false
set_option maxRecDepth 100000
set_option maxHeartbeats 4000000
/-! Great powers, a set of a tuple's ints, a class's static def. -/
namespace Lw
open PySem PySem.Spec PyProof.Rows L2
def CPowB (i j : Int) : Prop := 0 ≤ j ∧ (Builtin.Int.intBits i : Int) * j ≤ 2 ^ 27
theorem op_powB {X : Cx} : OpR X (binaryOp .Pow) (rI CPowB fun i j => .int (i ^ j.toNat)) := opI fun _ _ _ _ _ _ _ hc q => pow_int hc.1 hc.2 q
/-- set(t), t a tuple of ints -/
def rSetT (K : PySem.W.Frag) (w : World) : List V → Hp → VK → Prop := fun xs H Q => ∃ (a : Addr) (ns : List Int), xs = [.ref a] ∧ SqT K H a (ns.map V.int) ∧ ns.length + 1 < scanBound ∧ ∀ (p : Addr) (n : Nat), H p = none → n ≤ ns.length → Q (.ref p) (upd H p (SetO w p (fun j => decide (j ∈ ns)) n))
theorem cr_setT {X : Cx} (hc : X.calm = true) : CallR X (.type "set") (rSetT X.K X.w) := by
  intro pins s σ H xs us Q I r h
  obtain ⟨a, ns, rfl, ha, hb, q⟩ := h
  obtain ⟨u, rfl, ru⟩ := r.one
  cases (show u = Value.ref a from ru)
  obtain ⟨its, rv, pt, hz⟩ := I.tuple ha
  refine call_set_tupI ns (I.ok.hd hc) (show s.heap.IsTuple a its.toArray from pt) (by simpa using ints_of_vals rv) hb fun h' tk c R hle k => ?_
  exact ⟨.ref _, _, I.laid (t' := tk) k (Nat.le_refl _) (setO_new R), rfl, q _ _ (I.hok.fresh (Nat.le_refl _)) hle⟩
/-- a class's static def at f, its wrapper at p -/
structure StaticOf (K : PySem.W.Frag) (C : Addr) (m : Str) (p f : Addr) : Prop where
  reads : PySem.W.readsIn K C (.type "type") = true
  find : PySem.W.findCls K (.ref C) (.type "type") m = some (.get (.builtin "staticmethod.__get__") (.ref p) .none (.ref C))
  sm : ∃ rest, PySem.W.recIn K p "staticmethod" = some (.ref f :: rest)
  hand : PySem.W.handedIn (.ref f) = true
  attr : PySem.W.specialIn K (.ref C) "__getattribute__" = some (some (.builtin "type.__getattribute__"))
  kp : PySem.W.keepIn K (.ref f) = true
/-- C.m(e, ..) -/
theorem pe_static {X : Cx} {CX : CXT} {k : Nat} {C p f : Addr} {x m : Str} {np apos pos : Pos} {fd : FuncData} {ps : List Str} {sp : Sp} {dvs : List V} {ds : List Value} {E : XK} {e : Expr} {es : List Expr} {t : TA} {pl : Sem Bool}
    (S : StaticOf X.K C m p f) (F : FnOk X.prog X.w X.K X.mg X.base CX k f fd ps sp) (hr : Room k X.A) (hg : Gl X x) (hm : X.mg x = some (.ref C)) (hb : Binds X.K fd ps ds) (hd : Vals dvs ds) (hx : Passes CX X E) (ha : PA X (e :: es) t)
    (hdb : (x == ("__debug__" : Str)) = false := by decide) (he : starEach (e :: es) X.env = (false, eval e X.env) :: starEach es X.env := by rfl) (hpl : (backTo pos (starEach es X.env)).any (·.1) = false := by rfl)
    (ht : eval (.Call (.Attribute (.Name x np) m apos) (e :: es) [] pos) X.env = (do
      let ov ← eval (.Name x np) X.env
      standAt apos.atName
      let (f, first) ← holding [ov] (getMethod ov m pl)
      callWith pos f first (backTo pos (starEach (e :: es) X.env)) (backToKw pos (keywordEach [] X.env))) := by rfl) : PE X (.Call (.Attribute (.Name x np) m apos) (e :: es) [] pos) (tCall sp dvs E t) := by
  refine ⟨fun pins s σ H Q I h => PySem.W.methodCall_KW (pl := pl) (ld_glob I hg hm ?_ hdb) ht⟩
  obtain ⟨rest, hrec⟩ := S.sm
  refine PySem.W.method_cls I.kIn S.attr (PySem.W.cls_bind I.kIn S.reads S.find (wpAny_call (PySem.W.sm_get (s := { s with toks := s.toks + 1 }) I.kIn hrec (PySem.W.handed_on S.hand ?_))))
  have I2 : Inv X pins σ H { s with toks := s.toks + 1 } := I.tok _
  refine PySem.W.callWith_K (h₀ := X.base) I2.ok.mod.kin S.kp (thn (ha.run pos pins { s with toks := s.toks + 1 } σ H _ I2 h) fun us s1 hh => ?_) he hpl
  obtain ⟨vs, H1, I1, r, q⟩ := hh
  exact ⟨I1.kIn, run_fn F hr hb hd hx I1 r q⟩
end Lw

set_option Elab.async false
set_option linter.all false
set_option maxRecDepth 100000
set_option maxHeartbeats 4000000
/-! A def's promise with all that a call asks of it, in one fact; the calls by it. -/
namespace Lw
open PySem PySem.Spec PyProof.Rows L2
/-- the def at f keeps sp at level k; nothing goes out of it -/
structure Pr (P : Program) (w : World) (K : PySem.W.Frag) (mg : Str → Option Value) (base : Heap) (k : Nat) (f : Addr) (ps : List Str) (sp : Sp) : Prop where
  ex : ∃ fd, FnOk P w K mg base CX0 k f fd ps sp ∧ Binds K fd ps []
  kp : PySem.W.keepIn K (.ref f) = true
theorem Pr.of {P : Program} {w : World} {K : PySem.W.Frag} {mg : Str → Option Value} {base : Heap} {k : Nat} {f : Addr} {fd : FuncData} {ps : List Str} {sp : Sp} (h : FnOk P w K mg base CX0 k f fd ps sp) (b : Binds K fd ps []) (kp : PySem.W.keepIn K (.ref f) = true) : Pr P w K mg base k f ps sp := ⟨⟨fd, h, b⟩, kp⟩
section
variable {X : Cx} {k : Nat} {f C : Addr} {x m : Str} {ps : List Str} {sp : Sp} {E : XK} {p pos apos np : Pos} {o e : Expr} {es : List Expr} {ta : TE} {t : TA}
theorem pcl (G : Pr X.prog X.w X.K X.mg X.base k f ps sp) (hr : Room k X.A) (hg : Gl X x) (hm : X.mg x = some (.ref f)) (ha : PA X (e :: es) t) (hdb : (x == ("__debug__" : Str)) = false := by decide)
    (he : starEach (e :: es) X.env = (false, eval e X.env) :: starEach es X.env := by rfl) (hpl : (backTo pos (starEach es X.env)).any (·.1) = false := by rfl) : PE X (.Call (.Name x p) (e :: es) [] pos) (tCall sp [] E0 t) := by
  obtain ⟨fd, F, b⟩ := G.ex
  exact pe_call F hr hg hm G.kp b .nil pass0 ha hdb he hpl
theorem pmk (M : Mk X.K C f) (G : Pr X.prog X.w X.K X.mg X.base k f ps sp) (hr : Room (k + 1) X.A) (hg : Gl X x) (hm : X.mg x = some (.ref C)) (ha : PA X (e :: es) t) (hdb : (x == ("__debug__" : Str)) = false := by decide)
    (he : starEach (e :: es) X.env = (false, eval e X.env) :: starEach es X.env := by rfl) (hpl : (backTo pos (starEach es X.env)).any (·.1) = false := by rfl) : PE X (.Call (.Name x p) (e :: es) [] pos) (tMake C sp [] E0 t) := by
  obtain ⟨fd, F, b⟩ := G.ex
  exact pe_make M F hr hg hm b .nil pass0 ha hdb he hpl
theorem pmt {pl : Sem Bool} (he : PE X o ta) (c : Cls X.K C) (hm : PySem.W.findIn X.K (.ref C) m = some (some (.ref f))) (hf : PySem.W.isFn X.K (.ref f) = true) (G : Pr X.prog X.w X.K X.mg X.base k f ps sp) (hr : Room k X.A) (ha : PA X (e :: es) t)
    (hst : starEach (e :: es) X.env = (false, eval e X.env) :: starEach es X.env := by rfl) (hpl : (backTo pos (starEach es X.env)).any (·.1) = false := by rfl)
    (ht : eval (.Call (.Attribute o m apos) (e :: es) [] pos) X.env = (do
      let ov ← eval o X.env
      standAt apos.atName
      let (f, first) ← holding [ov] (getMethod ov m pl)
      callWith pos f first (backTo pos (starEach (e :: es) X.env)) (backToKw pos (keywordEach [] X.env))) := by rfl) :
    PE X (.Call (.Attribute o m apos) (e :: es) [] pos) (tMeth C m sp [] E0 ta t) := by
  obtain ⟨fd, F, b⟩ := G.ex
  exact pe_meth he c ⟨hm, hf, G.kp⟩ F hr b .nil pass0 ha hst hpl ht
theorem ppr {q : Addr} (he : PE X e ta) (c : Cls X.K C) (hp : PropOf X.K C m q f) (G : Pr X.prog X.w X.K X.mg X.base k f ps sp) (hr : Room (k + 1) X.A) (hab : attributeBase e m X.env (eval e X.env) = eval e X.env := by rfl) : PE X (.Attribute e m pos) (tProp C sp [] E0 ta) := by
  obtain ⟨fd, F, b⟩ := G.ex
  exact pe_prop he c hp F hr b .nil pass0 hab
theorem pst {q : Addr} {pl : Sem Bool} (S : StaticOf X.K C m q f) (G : Pr X.prog X.w X.K X.mg X.base k f ps sp) (hr : Room k X.A) (hg : Gl X x) (hm : X.mg x = some (.ref C)) (ha : PA X (e :: es) t)
    (hdb : (x == ("__debug__" : Str)) = false := by decide) (he : starEach (e :: es) X.env = (false, eval e X.env) :: starEach es X.env := by rfl) (hpl : (backTo pos (starEach es X.env)).any (·.1) = false := by rfl)
    (ht : eval (.Call (.Attribute (.Name x np) m apos) (e :: es) [] pos) X.env = (do
      let ov ← eval (.Name x np) X.env
      standAt apos.atName
      let (f, first) ← holding [ov] (getMethod ov m pl)
      callWith pos f first (backTo pos (starEach (e :: es) X.env)) (backToKw pos (keywordEach [] X.env))) := by rfl) : PE X (.Call (.Attribute (.Name x np) m apos) (e :: es) [] pos) (tCall sp [] E0 t) := by
  obtain ⟨fd, F, b⟩ := G.ex
  exact pe_static S F hr hg hm b .nil pass0 ha hdb he hpl ht
variable {p1 p2 : Str}
theorem opB {op : Operator} (hs : PySem.W.findIn X.K (.ref C) (PySem.dunder op.info.2) = some (some (.ref f))) (hf : PySem.W.isFn X.K (.ref f) = true) (hc : PySem.W.selfFirst X.K C = true) (G : Pr X.prog X.w X.K X.mg X.base k f [p1, p2] sp) (hr : Room k X.A) : OpR X (binaryOp op) (rOwnB C sp E0) := by
  obtain ⟨fd, F, b⟩ := G.ex
  exact op_ownB hs hf hc F hr b pass0
theorem opIn (hs : PySem.W.findIn X.K (.ref C) "__contains__" = some (some (.ref f))) (hf : PySem.W.isFn X.K (.ref f) = true) (G : Pr X.prog X.w X.K X.mg X.base k f [p1, p2] sp) (hr : Room k X.A) : OpR X (compareOp .In) (rOwnIn C sp E0) := by
  obtain ⟨fd, F, b⟩ := G.ex
  exact op_ownIn hs hf F hr b pass0
theorem opEq (hs : PySem.W.findIn X.K (.ref C) "__eq__" = some (some (.ref f))) (hf : PySem.W.isFn X.K (.ref f) = true) (G : Pr X.prog X.w X.K X.mg X.base k f [p1, p2] sp) (hr : Room k X.A) : OpR X (compareOp .Eq) (rOwnEq X.K C sp E0) := by
  obtain ⟨fd, F, b⟩ := G.ex
  exact op_ownEq hs hf F hr b pass0
theorem opNe (hm : PySem.W.mroIn X.K C (.type "object") = some true) (hne : PySem.W.findIn X.K (.ref C) "__ne__" = some (some (.builtin "object.__ne__"))) (hs : PySem.W.findIn X.K (.ref C) "__eq__" = some (some (.ref f))) (hf : PySem.W.isFn X.K (.ref f) = true)
    (G : Pr X.prog X.w X.K X.mg X.base k f [p1, p2] sp) (hr : Room (k + 1) X.A) : OpR X (compareOp .NotEq) (rOwnNe X.K C sp E0) := by
  obtain ⟨fd, F, b⟩ := G.ex
  exact op_ownNe hm hne hs hf F hr b pass0
end
/-! ### the rules whose reading names the written part, that part given (within a comprehension it must be) -/
section
variable {X : Cx} {e : Expr} {f : Str} {pos : Pos} {ta : TE}
theorem ixT (K : PySem.W.Frag) (hK : X.K = K := by rfl) : IxR X (rIxT K) := by
  subst hK
  exact ix_tup
theorem ixL (K : PySem.W.Frag) (hK : X.K = K := by rfl) : IxR X (rIxL K) := by
  subst hK
  exact ix_list
theorem fldK (K : PySem.W.Frag) (he : PE X e ta) (hb : attributeBase e f X.env (eval e X.env) = eval e X.env := by rfl) (hK : X.K = K := by rfl) : PE X (.Attribute e f pos) (tFld K ta f) := by
  subst hK
  exact pe_fld he hb
def rLenK (K : PySem.W.Frag) : List V → Hp → VK → Prop := fun xs H Q => ∃ p ys, xs = [.ref p] ∧ (SqL K H p ys ∨ SqT K H p ys) ∧ Q (.int ys.length) H
theorem lenK (K : PySem.W.Frag) (hK : X.K = K := by rfl) : CallR X (.builtin "len") (rLenK K) := by
  subst hK
  exact call_len_seq
theorem isiK (K : PySem.W.Frag) (hK : X.K = K := by rfl) : CallR X (.builtin "isinstance") (rIsi K) := by
  subst hK
  exact call_isi
theorem idxK (K : PySem.W.Frag) (hu : X.A.units + 65 < cLine) (hK : X.K = K := by rfl) : MtR X "list.index" (rIndexD K) := by
  subst hK
  exact mt_indexD hu
theorem eqK (K : PySem.W.Frag) (hu : X.A.units + 64 < cLine) (hK : X.K = K := by rfl) : OpR X (compareOp .Eq) (rEqD K) := by
  subst hK
  exact op_eqD hu
end
theorem tupG {X : Cx} {es : List Expr} {k : Nat} {t : TGs} {pos : Pos} (K : PySem.W.Frag) (n : Nat) (h : PGs X es t) (hc : X.calm = true := by rfl) (hn : (assignEach es X.env).length = n := by rfl) (hst : (assignEach es X.env).findIdx? (·.1) = none := by rfl) (hK : X.K = K := by rfl) : PG X (.Tuple es k pos) (gTup K n t) := by
  subst hK
  exact pg_tup hc h hn hst
theorem bmK {X : Cx} {T id : String} {name : Str} {r : V → List V → Hp → VK → Prop} {to : TE} {t : TA} {o e : Expr} {es : List Expr} {apos cpos : Pos} (K : PySem.W.Frag) (pa : PlainAttrs T) (slot : Slot T name id) (hty : typeOf (.builtin id) = pure (.type "method_descriptor")) (hm : MtR X id r) (ho : PE X o to) (ha : PA X (e :: es) t)
    (hb : attributeBase o name X.env (eval o X.env) = eval o X.env := by rfl) (hf : ((backTo cpos (starEach (e :: es) X.env)).all (fun x => !x.1) && (backToKw cpos (keywordEach [] X.env)).all (fun x => x.1.isSome) && decide ((e :: es).length + ([] : List Keyword).length + (if ([] : List Keyword).isEmpty then 0 else 1) < 30)) = true := by rfl)
    (hl : (apos.endLine == cpos.line) = true := by rfl) (hs : starEach (e :: es) X.env = (false, eval e X.env) :: starEach es X.env := by rfl) (hp : (backTo cpos (starEach es X.env)).any (·.1) = false := by rfl) (hK : X.K = K := by rfl) :
    PE X (.Call (.Attribute o name apos) (e :: es) [] cpos) (tBM K T r to t) := by
  subst hK
  exact pe_bm pa slot hty hm ho ha hb hf hl hs hp
end Lw
namespace Lw
open PySem PySem.Spec PyProof.Rows L2
theorem catK {X : Cx} (K : PySem.W.Frag) (hK : X.K = K := by rfl) : OpR X (binaryOp .Add) (rCatA K) := by
  subst hK
  exact op_catA
/-- t + (y,) -/
theorem cat_reads {K : PySem.W.Frag} {H : Hp} {a b : Addr} {xs : List V} {y : V} {Q : VK} (ha : SqT K H a xs) (hb : SqT K H b [y]) (hz : xs.length < sizeLine) (h : ∀ (p : Addr) (H' : Hp), Same H H' → SqT K H' p (xs ++ [y]) → Q (.ref p) H') : rCatA K (.ref a) (.ref b) H Q := by
  refine ⟨a, b, xs, [y], rfl, rfl, ha, hb, by rw [List.length_singleton]; omega, fun e => ?_, fun _ e => (by cases e), fun _ _ p hp => ?_⟩
  · subst e
    exact h b H (Same.refl _) hb
  · exact h p _ (fun c o e => by rw [upd_ne (ne_of_none e hp)]; exact e) (SqT.of upd_same)
/-- both ways of an if bring an int, the rest is told once -/
theorem if_int {tt : TT} {ta tb : TE} {σ : L2.St} {H : Hp} {Q : VK} (h : ∀ z : Int, Q (.int z) H) (k : (∀ z : Int, Q (.int z) H) → tIf tt ta tb σ H Q) : tIf tt ta tb σ H Q := k h
end Lw

set_option Elab.async false
set_option linter.all false
set_option maxRecDepth 100000
set_option maxHeartbeats 4000000
/-! The head by a check of one's own, classes with properties and static defs among it. -/
namespace Lw
open PySem PySem.Spec PyProof.Rows L2
def obsC (chk : PySem.W.Frag → Bool) (fn : List He5.DefA) (K : PySem.W.Frag) : He.AlD := (chk K && fn.all fun d => d.ok K, fn.map fun d => He5.fnA K (d.at_ K))
def SaysC (chk : PySem.W.Frag → Bool) (fn : List He5.DefA) (K : PySem.W.Frag) : Prop := obsC chk fn K = He5.valA fn
def obsCG (n : Nat) (chk : PySem.W.Frag → Bool) (fn : List He5.DefA) (g : Addr → Option Obj) : He.AlD := obsC chk fn (He.frG g (He5.asA g n))
def hookC (n : Nat) (chk : PySem.W.Frag → Bool) (fn : List He5.DefA) : PySem.W.Hook where
  α := He.AlD
  obs := fun s => obsCG n chk fn s.heap.get?
  val := fun _ => He5.valA fn
  says := fun _ h => ∃ K : PySem.W.Frag, K.In h ∧ SaysC chk fn K
  of := fun _ _ e => ⟨_, He.frG_in, e⟩
  keeps := fun _ _ _ ⟨K, hK, c⟩ k => ⟨K, PySem.W.Frag.In.keeps hK k, c⟩
theorem obsCG_eq {n : Nat} {chk : PySem.W.Frag → Bool} {fn : List He5.DefA} {g : Addr → Option Obj} {s : Shared} (h : ∀ a, g a = s.heap.get? a) : obsCG n chk fn g = (hookC n chk fn).obs s := by
  have e : g = s.heap.get? := funext h
  rw [e] <;> rfl
theorem SaysC.chk {chk : PySem.W.Frag → Bool} {fn : List He5.DefA} {K : PySem.W.Frag} (c : SaysC chk fn K) : chk K = true :=
  (He.ba (show (chk K && fn.all fun d => d.ok K) = true from congrArg (fun z : He.AlD => z.1) c)).1
theorem SaysC.def_ {chk : PySem.W.Frag → Bool} {fn : List He5.DefA} {K : PySem.W.Frag} (c : SaysC chk fn K) (i : Nat) {d : He5.DefA} (h : fn[i]? = some d := by rfl) : ∃ fd, FunD K d.name d.qual d.params d.body d.scope (d.dvs K) (d.kws K) (d.at_ K) fd := by
  have c2 := (He.ba (show (chk K && fn.all fun d => d.ok K) = true from congrArg (fun z : He.AlD => z.1) c)).2
  have e : fn.map (fun d => He5.fnA K (d.at_ K)) = fn.map He5.DefA.val := congrArg (fun z : He.AlD => z.2) c
  have e2 : (fn.map fun d => He5.fnA K (d.at_ K))[i]? = (fn.map He5.DefA.val)[i]? := by rw [e]
  rw [List.getElem?_map, List.getElem?_map, h] at e2
  exact He5.DefA.funD (Option.some.inj e2) (List.all_eq_true.mp c2 d (List.mem_of_getElem? h))
section
variable {K : PySem.W.Frag} {C : Addr} {m : Str}
/-- the class has the property m -/
def propB (K : PySem.W.Frag) (C : Addr) (m : Str) : Bool := He.eqO (PySem.W.findIn K (.ref C) m) (some (some (.ref (He.ma K C m)))) && (He.eqO (PySem.W.specialIn K (.ref (He.ma K C m)) "__get__") (some (some (.builtin "property.__get__"))) &&
  (decide (PySem.W.takesIn K (.ref (He.ma K C m)) = some true) && (match PySem.W.recIn K (He.ma K C m) "property" with
    | some (.ref _ :: _) => true
    | _ => false)))
theorem propB_ok (h : propB K C m = true) : PropOf K C m (He.ma K C m) (He5.wf K C "property" m) := by
  obtain ⟨h1, h⟩ := He.ba h
  obtain ⟨h2, h⟩ := He.ba h
  obtain ⟨h3, h4⟩ := He.ba h
  refine ⟨He.eqO_ok h1, He.eqO_ok h2, of_decide_eq_true h3, ?_⟩
  unfold He5.wf
  split at h4
  · rename_i f r e
    exact ⟨r, by rw [e]⟩
  · cases h4
/-- the class has the static def m -/
def statB (K : PySem.W.Frag) (C : Addr) (m : Str) : Bool := He5.wrapB K C "staticmethod" "staticmethod.__get__" m && (PySem.W.readsIn K C (.type "type") && (PySem.W.handedIn (.ref (He5.wf K C "staticmethod" m)) &&
  (He.eqO (PySem.W.specialIn K (.ref C) "__getattribute__") (some (some (.builtin "type.__getattribute__"))) && PySem.W.keepIn K (.ref (He5.wf K C "staticmethod" m)))))
theorem statB_ok (h : statB K C m = true) : StaticOf K C m (He.ma K C m) (He5.wf K C "staticmethod" m) := by
  obtain ⟨h1, h⟩ := He.ba h
  obtain ⟨h2, h⟩ := He.ba h
  obtain ⟨h3, h⟩ := He.ba h
  obtain ⟨h4, h5⟩ := He.ba h
  obtain ⟨f1, f2⟩ := He5.wrapB_ok h1
  exact ⟨h2, f1, f2, h3, He.eqO_ok h4, h5⟩
end
end Lw

set_option Elab.async false
set_option linter.all false
set_option maxRecDepth 100000
set_option maxHeartbeats 4000000
namespace K03
open PySem PySem.Spec PyProof.Rows L2 Lw
def top (i : Nat) : Stmt := PySem.Challenge.pw_landingwires_k03_whole_standings_least_a.main.body.getD i (.Pass ⟨0, 0, 0, 0⟩)
abbrev FnP (K : PySem.W.Frag) (x qual : Str) (st : Stmt) (f : Addr) (fd : FuncData) : Prop := FunD K x qual (defArgs st) (defBody st) (defScope st) [] [] f fd
abbrev ga := He.ga
abbrev ma := He.ma
abbrev cS (K : PySem.W.Frag) : Addr := ga K "Standing"
def frees : List Str := ["isinstance", "int", "bool", "tuple", "len", "all", "enumerate", "min", "max", "range", "list", "zip", "abs", "sorted", "set"]
def globals : List Str := ["is_int", "are_marks", "check_wires", "merged", "_law_pot", "_law_take", "_law_of", "_law_cells", "_law_all_marks", "_law_drawn_marks", "_law_are_bounds_right", "_law_right", "law"]
/-- what the written part is asked for -/
structure Txt (K : PySem.W.Frag) (mg : Str → Option Value) : Prop where
  free : ∀ x ∈ frees, mg x = none
  gl : ∀ x ∈ globals, mg x = some (.ref (ga K x))
  gS : mg "Standing" = some (.ref (cS K))
  nums : ∀ (x : Str) (i : Int), (x, i) ∈ [(("LEAST_WIRES" : Str), (1 : Int)), ("MOST_WIRES", 4)] → ∃ t, mg x = some (.int i t)
  cls : Cls K (cS K)
  nof : NoAttr K (cS K) "_marks"
  mkr : Mk K (cS K) (ma K (cS K) "__init__")
  pMarks : PropOf K (cS K) "marks" (ma K (cS K) "marks") (He5.wf K (cS K) "property" "marks")
  pWires : PropOf K (cS K) "wires" (ma K (cS K) "wires") (He5.wf K (cS K) "property" "wires")
  sBare : StaticOf K (cS K) "bare" (ma K (cS K) "bare") (He5.wf K (cS K) "staticmethod" "bare")
  at_ : ∀ m ∈ (["within", "__contains__", "__or__", "__and__", "__eq__"] : List Str), PySem.W.findIn K (.ref (cS K)) m = some (some (.ref (ma K (cS K) m)))
  fn : ∀ m ∈ (["within", "__contains__", "__or__", "__and__", "__eq__"] : List Str), PySem.W.isFn K (.ref (ma K (cS K) m)) = true
  sf : PySem.W.selfFirst K (cS K) = true
  obj : PySem.W.mroIn K (cS K) (.type "object") = some true
  ne : PySem.W.findIn K (.ref (cS K)) "__ne__" = some (some (.builtin "object.__ne__"))
  nfst : PySem.W.notFirst K (cS K) (.ref (cS K)) = true
  kit : PySem.W.kitOne K (.ref (cS K)) (.ref (cS K)) = some true
  ca : PySem.W.findIn K (.ref (cS K)) "__class__" = some (some (.builtin "object.__class__"))
  cg : PySem.W.specialIn K (.builtin "object.__class__") "__get__" = some (some (.builtin "getset_descriptor.__get__"))
  ct : PySem.W.takesIn K (.builtin "object.__class__") = some true
abbrev sIsInt : Stmt := top 7
abbrev nIsInt : List Str := ["value"]
theorem scIsInt : FnScope nIsInt ["value"] (defScope sIsInt) := ⟨rfl, rfl, rfl, by decide +kernel, rfl, by decide +kernel, by decide +kernel⟩
abbrev sAreM : Stmt := top 12
abbrev nAreM : List Str := ["value", "at", "mark"]
theorem scAreM : FnScope nAreM ["value"] (defScope sAreM) := ⟨rfl, rfl, rfl, by decide +kernel, rfl, by decide +kernel, by decide +kernel⟩
abbrev sMrg : Stmt := top 14
abbrev nMrg : List Str := ["marks", "one", "other", "low", "high", "mark"]
theorem scMrg : FnScope nMrg ["marks", "one", "other"] (defScope sMrg) := ⟨rfl, rfl, rfl, by decide +kernel, rfl, by decide +kernel, by decide +kernel⟩
abbrev sChk : Stmt := top 13
abbrev nChk : List Str := ["one", "other"]
theorem scChk : FnScope nChk ["one", "other"] (defScope sChk) := ⟨rfl, rfl, rfl, by decide +kernel, rfl, by decide +kernel, by decide +kernel⟩
abbrev sInit : Stmt := inClass (top 11) 0
abbrev nInit : List Str := ["self", "marks"]
theorem scInit : FnScope nInit ["self", "marks"] (defScope sInit) := ⟨rfl, rfl, rfl, by decide +kernel, rfl, by decide +kernel, by decide +kernel⟩
abbrev sMarks : Stmt := inClass (top 11) 1
abbrev nMarks : List Str := ["self"]
theorem scMarks : FnScope nMarks ["self"] (defScope sMarks) := ⟨rfl, rfl, rfl, by decide +kernel, rfl, by decide +kernel, by decide +kernel⟩
abbrev sWires : Stmt := inClass (top 11) 2
abbrev nWires : List Str := ["self"]
theorem scWires : FnScope nWires ["self"] (defScope sWires) := ⟨rfl, rfl, rfl, by decide +kernel, rfl, by decide +kernel, by decide +kernel⟩
abbrev sBare : Stmt := inClass (top 11) 4
abbrev nBare : List Str := ["wires"]
theorem scBare : FnScope nBare ["wires"] (defScope sBare) := ⟨rfl, rfl, rfl, by decide +kernel, rfl, by decide +kernel, by decide +kernel⟩
abbrev sWithin : Stmt := inClass (top 11) 5
abbrev nWithin : List Str := ["self", "other", "at", "mark"]
theorem scWithin : FnScope nWithin ["self", "other"] (defScope sWithin) := ⟨rfl, rfl, rfl, by decide +kernel, rfl, by decide +kernel, by decide +kernel⟩
abbrev sCont : Stmt := inClass (top 11) 6
abbrev nCont : List Str := ["self", "value", "thing"]
theorem scCont : FnScope nCont ["self", "value"] (defScope sCont) := ⟨rfl, rfl, rfl, by decide +kernel, rfl, by decide +kernel, by decide +kernel⟩
abbrev sOr : Stmt := inClass (top 11) 7
abbrev nOr : List Str := ["self", "other", "together", "at", "mark"]
theorem scOr : FnScope nOr ["self", "other"] (defScope sOr) := ⟨rfl, rfl, rfl, by decide +kernel, rfl, by decide +kernel, by decide +kernel⟩
abbrev sAnd : Stmt := inClass (top 11) 8
abbrev nAnd : List Str := ["self", "other", "pairs", "pair"]
theorem scAnd : FnScope nAnd ["self", "other"] (defScope sAnd) := ⟨rfl, rfl, rfl, by decide +kernel, rfl, by decide +kernel, by decide +kernel⟩
abbrev sEq : Stmt := inClass (top 11) 9
abbrev nEq : List Str := ["self", "other"]
theorem scEq : FnScope nEq ["self", "other"] (defScope sEq) := ⟨rfl, rfl, rfl, by decide +kernel, rfl, by decide +kernel, by decide +kernel⟩
/-! ### data -/
theorem not_dec {p : Prop} [Decidable p] (h : p) : (!decide p) = false := by rw [decide_eq_true h]; rfl
theorem big_line : (100000 : Nat) ≤ sizeLine := by rw [sizeLine_eq]; omega
def mv (ms : List Nat) : List V := ms.map fun n : Nat => V.int (n : Int)
def gd (ms : List Nat) (i : Nat) : Nat := ms.getD i 0
theorem mv_len (ms : List Nat) : (mv ms).length = ms.length := List.length_map ..
theorem mv_get {ms : List Nat} {i : Nat} (h : i < ms.length) : (mv ms)[i]? = some (.int (gd ms i : Nat)) := by
  unfold mv gd
  rw [List.getElem?_map, List.getD_eq_getElem?_getD, List.getElem?_eq_getElem h]
  rfl
theorem mv_at {ms : List Nat} {i : Nat} (h : i < ms.length) : atI (mv ms) (i : Int) = some (.int (gd ms i : Nat)) := atI_nat (mv_get h)
theorem dp_mv {K : PySem.W.Frag} {H : Hp} : ∀ ms : List Nat, DpAll K H (mv ms) (ms.map fun n : Nat => PyData.int n)
  | [] => .nil
  | n :: ms => .cons (.int n) (dp_mv ms)
theorem lay_mv : ∀ ms : List Nat, PyData.canLayAll0 (ms.map fun n : Nat => PyData.int n) = true
  | [] => rfl
  | n :: ms => by
    rw [List.map_cons, PyData.canLayAll0, lay_mv ms]
    rfl
theorem depth_mv : ∀ ms : List Nat, PyData.depthAll (ms.map fun n : Nat => PyData.int n) = 0
  | [] => rfl
  | n :: ms => by
    rw [List.map_cons, PyData.depthAll, depth_mv ms]
    rfl
theorem shaped_mv (ms : List Nat) : SeqAt.shaped (.tuple (ms.map fun n : Nat => PyData.int n)) = true := by
  show (PyData.canLay0 (.tuple (ms.map fun n : Nat => PyData.int n)) && decide (PyData.depth (.tuple (ms.map fun n : Nat => PyData.int n)) ≤ 64)) = true
  rw [Bool.and_eq_true]
  refine ⟨by simp only [PyData.canLay0]; exact lay_mv ms, decide_eq_true ?_⟩
  simp only [PyData.depth]
  rw [depth_mv]
  decide
theorem eqvAll_mv : ∀ ms os : List Nat, PyData.eqvAll (ms.map fun n : Nat => PyData.int n) (os.map fun n : Nat => PyData.int n) = decide (ms = os)
  | [], [] => by simp [PyData.eqvAll]
  | [], o :: os => by simp [PyData.eqvAll]
  | m :: ms, [] => by simp [PyData.eqvAll]
  | m :: ms, o :: os => by
    rw [List.map_cons, List.map_cons, PyData.eqvAll, eqvAll_mv ms os, PyData.eqv, Bool.eq_iff_iff]
    simp
    intro _
    omega
theorem eqv_mv (ms os : List Nat) : PyData.eqv (.tuple (ms.map fun n : Nat => PyData.int n)) (.tuple (os.map fun n : Nat => PyData.int n)) = decide (ms = os) := by
  simp only [PyData.eqv]
  exact eqvAll_mv ms os
structure Canon (ms : List Nat) : Prop where
  lo : 3 ≤ ms.length
  hi : ms.length ≤ 6
  le : ∀ i, i < ms.length → gd ms i ≤ i
  fix : ∀ i, i < ms.length → gd ms (gd ms i) = gd ms i
theorem Canon.lt {ms : List Nat} (c : Canon ms) {i : Nat} (h : i < ms.length) : gd ms i < ms.length := Nat.lt_of_le_of_lt (c.le i h) h
theorem ty_tup {K : PySem.W.Frag} {H : Hp} {a : Addr} {xs : List V} (h : SqT K H a xs) : TyX K H (.ref a) (.type "tuple") := by
  rcases h with (h | ⟨o, h⟩) | ⟨o, its, n, hk, hc, _⟩
  · exact .base (.tup h)
  · exact .fTuple h
  · exact .kTuple hk hc
/-- a Standing with these marks stands at a -/
def StAt (K : PySem.W.Frag) (H : Hp) (a : Addr) (ms : List Nat) : Prop := ∃ dx t, H a = some (.ins (cS K) dx [("_marks", .ref t)]) ∧ SqT K H t (mv ms)
theorem StAt.same {K : PySem.W.Frag} {H H' : Hp} {a : Addr} {ms : List Nat} (h : StAt K H a ms) (s : Same H H') : StAt K H' a ms := by
  obtain ⟨dx, t, h1, h2⟩ := h
  exact ⟨dx, t, s _ _ h1, sqT_same s h2⟩
section
variable {P : Program} {w : World} {K : PySem.W.Frag} {mg : Str → Option Value} {base : Heap}
/-! ### is_int -/
def spIsInt (K : PySem.W.Frag) : Sp := fun vs H Q _ => ∃ (x : V) (t : Value) (b1 b2 : Bool), vs = [x] ∧ TyX K H x t ∧ PySem.W.kitOne K t (.type "int") = some b1 ∧ PySem.W.kitOne K t (.type "bool") = some b2 ∧ Q (.bl (b1 && !b2)) H
theorem ok_IsInt {f : Addr} {fd : FuncData} (T : Txt K mg) (F : FnP K "is_int" "is_int" sIsInt f fd) : Pr P w K mg base 1 f ["value"] (spIsInt K) := by
  refine .of (F.ok scIsInt (fun vs H Q E h => ?_) (fun cdv A outer s H vs Q E hr h => ⟨_, PSs.nox (pss_one (ps_ret (pe_and (pe_callB (isiK K) rfl (T.free _ (by decide +kernel)) (by decide +kernel) (pa_cons (pv 0) (pa_cons (pe_bltn (v := .ty "int") rfl (T.free _ (by decide +kernel)) (by decide +kernel) rfl) pa_nil))) (pe_one (pe_not (pe_callB (isiK K) rfl (T.free _ (by decide +kernel)) (by decide +kernel) (pa_cons (pv 0) (pa_cons (pe_bltn (v := .ty "bool") rfl (T.free _ (by decide +kernel)) (by decide +kernel) rfl) pa_nil)))))))), ?_⟩)) (F.bindsN fun _ _ _ _ _ _ us hl => match us, hl with | [_], _ => rfl) F.kp
  · obtain ⟨x, t, b1, b2, rfl, _⟩ := h
    rfl
  · obtain ⟨x, t, b1, b2, rfl, ty, k1, k2, q⟩ := h
    refine ⟨_, rfl, x, _, t, _, b1, rfl, .ty _, ty, k1, b1, rfl, ?_⟩
    cases b1 with
    | false => exact iteF q
    | true => exact iteT ⟨_, rfl, x, _, t, _, b2, rfl, .ty _, ty, k2, b2, rfl, q⟩
/-! ### are_marks -/
def spAreM (K : PySem.W.Frag) : Sp := fun vs H Q _ => ∃ (t : Addr) (ms : List Nat), vs = [.ref t] ∧ SqT K H t (mv ms) ∧ Canon ms ∧ ∀ H', Same H H' → Q (.bl true) H'
theorem ok_AreM {f : Addr} {fd : FuncData} (T : Txt K mg) (F : FnP K "are_marks" "are_marks" sAreM f fd) (GIsInt : Pr P w K mg base 1 (ga K "is_int") ["value"] (spIsInt K)) : Pr P w K mg base 2 f ["value"] (spAreM K) := by
  refine .of (F.ok scAreM (fun vs H Q E h => ?_) (fun cdv A outer s H vs Q E hr h => ⟨_, PSs.nox (pss_cons (ps_if (PW.pt (pw_or (pt_not (pt_val (pe_callB (isiK K) rfl (T.free _ (by decide +kernel)) (by decide +kernel) (pa_cons (pv 0) (pa_cons (pe_bltn (v := .ty "tuple") rfl (T.free _ (by decide +kernel)) (by decide +kernel) rfl) pa_nil))))) (pw_or1 (pt_not (pt_chain op_le op_le (pe_op op_add (pe_glob (v := .int 1) rfl (T.nums "LEAST_WIRES" 1 (by decide)).choose_spec ⟨_, rfl⟩) pe_int) (pe_callB (lenK K) rfl (T.free _ (by decide +kernel)) (by decide +kernel) (pa_cons (pv 0) pa_nil)) (pe_op op_add (pe_glob (v := .int 4) rfl (T.nums "MOST_WIRES" 4 (by decide)).choose_spec ⟨_, rfl⟩) pe_int)))))) (pss_one (ps_ret pe_bl)) pss_nil) (pss_one (ps_ret (pe_callB (cr_all rfl) rfl (T.free _ (by decide +kernel)) (by decide +kernel) (pa_cons (pe_lc (own := [("at", 1), ("mark", 2)]) (g := _) (tt := tYes) rfl scAreM.nd (pi_enumT rfl (T.free _ (by decide +kernel)) (pa_cons (pv 0) pa_nil)) (blkOk_by (N := nAreM) (sc := defScope sAreM) (by decide +kernel)) (fun _ _ _ _ _ => (tupG K 2 (pgs_cons (pg_name (i := 1) scAreM.nd rfl (Or.inl rfl)) (pgs_cons (pg_name (i := 2) scAreM.nd rfl (Or.inl rfl)) pgs_nil)))) (fun _ _ _ _ _ => pts_nil) (fun _ _ _ _ _ => (pe_and (pcl GIsInt (hr.mono (by decide)) rfl (T.gl "is_int" (by decide +kernel)) (pa_cons (pv 2) pa_nil)) (pe_and (pe_chain op_le op_le pe_int (pv 2) (pv 1)) (pe_one (pe_cmpR op_eq (pe_ix (ixT K) (pv 0) (pv 2) (fun _ _ => rfl)) (pv 2) (nomark _))))))) pa_nil))))), ?_⟩)) (F.bindsN fun _ _ _ _ _ _ us hl => match us, hl with | [_], _ => rfl) F.kp
  · obtain ⟨t, ms, rfl, _⟩ := h
    rfl
  · obtain ⟨t, ms, rfl, hs, c, q⟩ := h
    have c1 := c.lo
    have c2 := c.hi
    have big := big_line
    refine ⟨_, rfl, .ref t, _, _, _, true, rfl, .ty _, ty_tup hs, kit_ty (by decide +kernel), true, rfl, iteF ?_⟩
    refine ⟨1, 2, rfl, rfl, _, rfl, t, mv ms, rfl, .inr hs, 3, _, rfl, rfl, _, rfl, ?_⟩
    rw [mv_len]
    refine ifT (decide_eq_true (by omega)) ⟨4, 2, rfl, rfl, _, _, rfl, rfl, _, rfl, ifF (not_dec (by omega)) ?_⟩
    refine ⟨_, rfl, t, mv ms, rfl, hs, fun D hD => lc_it (walk_enumT (K := K) (a := t) (xs := mv ms)) (fun i H' => H' D = some (.lst (List.replicate i (V.bl true))) ∧ Same H H') ⟨upd_same, fun b o e => by rw [upd_ne (ne_of_none e hD)]; exact e⟩ (fun i H' _ z => sqT_same z.2 hs) ?_ ?_⟩
    · rintro i x H1 H2 hi ⟨h1, s1⟩ ⟨T0, n0, y0, rfl, hT, rfl, e1, e2⟩
      cases (show V.int (i : Nat) = n0 from Option.some.inj e1)
      rw [mv_len] at hi
      cases (show V.int (gd ms i : Nat) = y0 from Option.some.inj ((mv_get hi).symm.trans e2))
      have s2 : Same H (upd H1 T0 (.tup [V.int (i : Nat), V.int (gd ms i : Nat)])) := s1.trans fun b o e => by rw [upd_ne (ne_of_none e hT)]; exact e
      have le := c.le i hi
      refine ⟨T0, _, rfl, SqT.of upd_same, rfl, _, _, rfl, _, _, rfl, rfl, rfl, _, rfl, _, _, true, false, rfl, .base (.int _), kit_ty (by decide +kernel), kit_ty (by decide +kernel), _, rfl, iteT ?_⟩
      refine ⟨_, rfl, _, _, rfl, rfl, _, rfl, ifT (by simp) ⟨_, rfl, _, _, rfl, rfl, _, rfl, ifT (by simpa using le) ?_⟩⟩
      refine ⟨_, rfl, _, rfl, t, mv ms, _, _, rfl, rfl, sqT_same s2 hs, mv_at (c.lt hi), _, rfl, rfl, ?_⟩
      rw [c.fix i hi]
      refine ⟨_, (by rw [upd_ne (ne_of_none h1 hT)]; exact h1), by rw [List.length_replicate]; omega, ?_, fun b o e => ?_⟩
      · rw [upd_same, List.replicate_succ']
        simp
      · rw [upd_ne (ne_of_none e hD)]
        exact s2 _ _ e
    · rintro H1 ⟨h1, s1⟩
      refine ⟨D, List.replicate (mv ms).length true, rfl, SqL.of (by rw [h1, List.map_replicate]), ?_⟩
      have e : (List.replicate (mv ms).length true).all id = true := by simp
      rw [e]
      exact q _ s1
end
end K03

set_option Elab.async false
set_option linter.all false
set_option maxRecDepth 100000
set_option maxHeartbeats 4000000
namespace K03
open PySem PySem.Spec PyProof.Rows L2 Lw
section
variable {P : Program} {w : World} {K : PySem.W.Frag} {mg : Str → Option Value} {base : Heap}
/-! ### merged -/
def mergeM (ms : List Nat) (a b : Nat) : List Nat := ms.map fun m => if m = max (gd ms a) (gd ms b) then min (gd ms a) (gd ms b) else m
def spMrg (K : PySem.W.Frag) : Sp := fun vs H Q _ => ∃ (t : Addr) (ms : List Nat) (a b : Nat), vs = [.ref t, .int (a : Nat), .int (b : Nat)] ∧ SqT K H t (mv ms) ∧ ms.length ≤ 6 ∧ a < ms.length ∧ b < ms.length ∧ ∀ (t' : Addr) (H' : Hp), Same H H' → H' t' = some (.tup (mv (mergeM ms a b))) → Q (.ref t') H'
theorem ok_Mrg {f : Addr} {fd : FuncData} (T : Txt K mg) (F : FnP K "merged" "merged" sMrg f fd) : Pr P w K mg base 1 f ["marks", "one", "other"] (spMrg K) := by
  refine .of (F.ok scMrg (fun vs H Q E h => ?_) (fun cdv A outer s H vs Q E hr h => ⟨_, PSs.nox (pss_cons (ps_set (i := 3) scMrg.nd rfl (Or.inr rfl) (pe_callB (call_min2 rfl) rfl (T.free _ (by decide +kernel)) (by decide +kernel) (pa_cons (pe_ix (ixT K) (pv 0) (pv 1) (fun _ _ => rfl)) (pa_cons (pe_ix (ixT K) (pv 0) (pv 2) (fun _ _ => rfl)) pa_nil)))) (pss_cons (ps_set (i := 4) scMrg.nd rfl (Or.inr rfl) (pe_callB (call_max2 rfl) rfl (T.free _ (by decide +kernel)) (by decide +kernel) (pa_cons (pe_ix (ixT K) (pv 0) (pv 1) (fun _ _ => rfl)) (pa_cons (pe_ix (ixT K) (pv 0) (pv 2) (fun _ _ => rfl)) pa_nil)))) (pss_one (ps_ret (pe_callTy call_tuple_of rfl (T.free _ (by decide +kernel)) (by decide +kernel) (pa_cons (pe_lc (own := [("mark", 5)]) (g := gName 5) (tt := tYes) rfl scMrg.nd (pi_tup (pv 0)) (blkOk_by (N := nMrg) (sc := defScope sMrg) (by decide +kernel)) (fun _ _ _ _ _ => (pg_name (i := 5) scMrg.nd rfl (Or.inl rfl))) (fun _ _ _ _ _ => pts_nil) (fun _ _ _ _ _ => (pe_ifExp (pt_cmpR op_eq (pv 5) (pv 4) (nomark _)) (pv 3) (pv 5)))) pa_nil)))))), ?_⟩)) (F.bindsN fun _ _ _ _ _ _ us hl => match us, hl with | [_, _, _], _ => rfl) F.kp
  · obtain ⟨t, ms, a, b, rfl, _⟩ := h
    rfl
  · obtain ⟨t, ms, a, b, rfl, hs, hl, ha, hb, q⟩ := h
    have big := big_line
    refine seq_reads (set_reads ?_)
    refine ⟨_, rfl, _, rfl, t, mv ms, _, _, rfl, rfl, hs, mv_at ha, _, rfl, _, rfl, t, mv ms, _, _, rfl, rfl, hs, mv_at hb, _, _, rfl, ?_⟩
    dsimp only
    refine seq_reads (set_reads ?_)
    refine ⟨_, rfl, _, rfl, t, mv ms, _, _, rfl, rfl, hs, mv_at ha, _, rfl, _, rfl, t, mv ms, _, _, rfl, rfl, hs, mv_at hb, _, _, rfl, ?_⟩
    have e1 : (if ((gd ms b : Nat) : Int) < ((gd ms a : Nat) : Int) then ((gd ms b : Nat) : Int) else ((gd ms a : Nat) : Int)) = ((min (gd ms a) (gd ms b) : Nat) : Int) := by
      split <;> omega
    have e2 : (if ((gd ms b : Nat) : Int) > ((gd ms a : Nat) : Int) then ((gd ms b : Nat) : Int) else ((gd ms a : Nat) : Int)) = ((max (gd ms a) (gd ms b) : Nat) : Int) := by
      split <;> omega
    rw [e1, e2]
    refine ⟨_, rfl, t, rfl, ⟨_, hs⟩, fun D hD => lc_tup (K := K) (a := t) (xs := mv ms) (fun i H' => H' D = some (.lst ((mv (mergeM ms a b)).take i)) ∧ Same H H') ⟨upd_same, fun c o e => by rw [upd_ne (ne_of_none e hD)]; exact e⟩ (fun i H' _ z => sqT_same z.2 hs) ?_ ?_⟩
    · rintro i x H1 hx ⟨h1, s1⟩
      have hi : i < ms.length := by
        have e := (List.getElem?_eq_some_iff.mp hx).1
        rwa [mv_len] at e
      cases (show V.int (gd ms i : Nat) = x from Option.some.inj ((mv_get hi).symm.trans hx))
      have lenM : (mv (mergeM ms a b)).length = ms.length := by rw [mv_len]; exact List.length_map ..
      have fin : ∀ z : Nat, z = gd (mergeM ms a b) i → ∃ acc, H1 D = some (.lst acc) ∧ acc.length < sizeLine ∧ (upd H1 D (.lst (acc ++ [V.int (z : Nat)]))) D = some (.lst ((mv (mergeM ms a b)).take (i + 1))) ∧ Same H (upd H1 D (.lst (acc ++ [V.int (z : Nat)]))) := fun z hz => by
        refine ⟨_, h1, by rw [List.length_take, lenM]; omega, ?_, fun c o e => ?_⟩
        · rw [upd_same, List.take_succ, mv_get (by rw [← mv_len, lenM]; exact hi), hz]
          rfl
        · rw [upd_ne (ne_of_none e hD)]
          exact s1 _ _ e
      have gM : gd (mergeM ms a b) i = if gd ms i = max (gd ms a) (gd ms b) then min (gd ms a) (gd ms b) else gd ms i := by
        unfold mergeM gd
        rw [List.getD_eq_getElem?_getD, List.getElem?_map, List.getElem?_eq_getElem hi]
        simp only [Option.map_some, Option.getD_some, List.getD_eq_getElem?_getD, List.getElem?_eq_getElem hi]
      refine ⟨rfl, _, rfl, _, rfl, rfl, _, rfl, ?_⟩
      by_cases e : gd ms i = max (gd ms a) (gd ms b)
      · rw [if_pos e] at gM
        refine ifT (decide_eq_true (by rw [e])) ⟨_, rfl, fin _ gM.symm⟩
      · rw [if_neg e] at gM
        refine ifF (decide_eq_false fun z => e ?_) ⟨_, rfl, fin _ gM.symm⟩
        have z2 := V.int.inj z
        omega
    · rintro H1 ⟨h1, s1⟩
      have lenM : (mv (mergeM ms a b)).length = (mv ms).length := by rw [mv_len, mv_len]; exact List.length_map ..
      rw [← lenM, List.take_length] at h1
      refine ⟨D, _, rfl, .inl ⟨SqL.of h1, fun l hl => q l _ (fun c o e => ?_) upd_same⟩⟩
      rw [upd_ne (ne_of_none (s1 _ _ e) hl)]
      exact s1 _ _ e
/-! ### the properties -/
def spMarks (K : PySem.W.Frag) : Sp := fun vs H Q _ => ∃ (a dx t : Addr), vs = [.ref a] ∧ H a = some (.ins (cS K) dx [("_marks", .ref t)]) ∧ Q (.ref t) H
theorem ok_Marks {f : Addr} {fd : FuncData} (T : Txt K mg) (F : FnP K "marks" "Standing.marks" sMarks f fd) : Pr P w K mg base 1 f ["self"] (spMarks K) := by
  refine .of (F.ok scMarks (fun vs H Q E h => ?_) (fun cdv A outer s H vs Q E hr h => ⟨_, PSs.nox (pss_one (ps_ret (fldK K (pv 0)))), ?_⟩)) (F.bindsN fun _ _ _ _ _ _ us hl => match us, hl with | [_], _ => rfl) F.kp
  · obtain ⟨a, dx, t, rfl, _⟩ := h
    rfl
  · obtain ⟨a, dx, t, rfl, ha, q⟩ := h
    exact ⟨_, rfl, a, _, dx, _, _, rfl, ha, T.cls, T.nof, rfl, q⟩
def spWires (K : PySem.W.Frag) : Sp := fun vs H Q _ => ∃ (a : Addr) (ms : List Nat), vs = [.ref a] ∧ StAt K H a ms ∧ Q (.int ((ms.length : Int) - 2)) H
theorem ok_Wires {f : Addr} {fd : FuncData} (T : Txt K mg) (F : FnP K "wires" "Standing.wires" sWires f fd) : Pr P w K mg base 1 f ["self"] (spWires K) := by
  refine .of (F.ok scWires (fun vs H Q E h => ?_) (fun cdv A outer s H vs Q E hr h => ⟨_, PSs.nox (pss_one (ps_ret (pe_op op_sub (pe_callB (lenK K) rfl (T.free _ (by decide +kernel)) (by decide +kernel) (pa_cons (fldK K (pv 0)) pa_nil)) pe_int))), ?_⟩)) (F.bindsN fun _ _ _ _ _ _ us hl => match us, hl with | [_], _ => rfl) F.kp
  · obtain ⟨a, ms, rfl, _⟩ := h
    rfl
  · obtain ⟨a, ms, rfl, ⟨dx, t, ha, hs⟩, q⟩ := h
    refine ⟨_, rfl, a, _, dx, _, _, rfl, ha, T.cls, T.nof, rfl, t, mv ms, rfl, .inr hs, _, 2, rfl, rfl, ?_⟩
    rw [mv_len]
    exact q
/-! ### check_wires -/
def spChk (K : PySem.W.Frag) : Sp := fun vs H Q _ => ∃ (a b : Addr) (ms os : List Nat), vs = [.ref a, .ref b] ∧ StAt K H a ms ∧ StAt K H b os ∧ ms.length = os.length ∧ Q .non H
theorem ok_Chk {f : Addr} {fd : FuncData} (T : Txt K mg) (F : FnP K "check_wires" "check_wires" sChk f fd) (GWires : Pr P w K mg base 1 (He5.wf K (cS K) "property" "wires") ["self"] (spWires K)) : Pr P w K mg base 3 f ["one", "other"] (spChk K) := by
  refine .of (F.ok scChk (fun vs H Q E h => ?_) (fun cdv A outer s H vs Q E hr h => ⟨_, PSs.nox (pss_one (ps_if (pt_cmpR op_ne (ppr (pv 0) T.cls T.pWires GWires (hr.mono (by decide))) (ppr (pv 1) T.cls T.pWires GWires (hr.mono (by decide))) (nomark _)) (pss_one ps_never) pss_nil)), ?_⟩)) (F.bindsN fun _ _ _ _ _ _ us hl => match us, hl with | [_, _], _ => rfl) F.kp
  · obtain ⟨a, b, ms, os, rfl, _⟩ := h
    rfl
  · obtain ⟨a, b, ms, os, rfl, ha, hb, hl, q⟩ := h
    obtain ⟨dx, t, ea, _⟩ := id ha
    obtain ⟨dy, u, eb, _⟩ := id hb
    refine ⟨_, rfl, a, dx, _, rfl, ea, a, ms, rfl, ha, _, rfl, b, dy, _, rfl, eb, b, os, rfl, hb, rfl, _, rfl, ifF (by rw [hl]; simp) q⟩
/-! ### __init__ -/
def spInit (K : PySem.W.Frag) : Sp := fun vs H Q _ => ∃ (a dx t : Addr) (ms : List Nat), vs = [.ref a, .ref t] ∧ H a = some (.ins (cS K) dx []) ∧ SqT K H t (mv ms) ∧ Canon ms ∧ ∀ H' : Hp, (∀ b o, b ≠ a → H b = some o → H' b = some o) → H' a = some (.ins (cS K) dx [("_marks", .ref t)]) → Q .non H'
theorem ok_Init {f : Addr} {fd : FuncData} (T : Txt K mg) (F : FnP K "__init__" "Standing.__init__" sInit f fd) (GAreM : Pr P w K mg base 2 (ga K "are_marks") ["value"] (spAreM K)) : Pr P w K mg base 3 f ["self", "marks"] (spInit K) := by
  refine .of (F.ok scInit (fun vs H Q E h => ?_) (fun cdv A outer s H vs Q E hr h => ⟨_, PSs.nox (pss_cons (ps_if (pt_not (pt_val (pcl GAreM (hr.mono (by decide)) rfl (T.gl "are_marks" (by decide +kernel)) (pa_cons (pv 1) pa_nil)))) (pss_one ps_never) pss_nil) (pss_one (ps_fld (pv 0) (pv 1) rfl))), ?_⟩)) (F.bindsN fun _ _ _ _ _ _ us hl => match us, hl with | [_, _], _ => rfl) F.kp
  · obtain ⟨a, dx, t, ms, rfl, _⟩ := h
    rfl
  · obtain ⟨a, dx, t, ms, rfl, ha, hs, c, q⟩ := h
    refine ⟨_, rfl, t, ms, rfl, hs, c, fun H1 s1 => ⟨true, rfl, iteF ⟨_, rfl, _, rfl, a, _, dx, _, rfl, s1 _ _ ha, T.cls, T.nof, by decide, ?_⟩⟩⟩
    refine q _ (fun b o n e => ?_) upd_same
    rw [upd_ne n]
    exact s1 _ _ e
/-- Standing(t), t the marks of a standing -/
theorem mk_st {σ : L2.St} {H : Hp} {Q : VK} {ta : TA} (h : ta σ H fun vs H1 => ∃ (t : Addr) (ms : List Nat), vs = [.ref t] ∧ SqT K H1 t (mv ms) ∧ Canon ms ∧ ∀ (x : Addr) (H' : Hp), Same H1 H' → H1 x = none → StAt K H' x ms → Q (.ref x) H') (mono : ∀ (R R' : List V → Hp → Prop), (∀ vs H, R vs H → R' vs H) → ta σ H R → ta σ H R') :
    tMake (cS K) (spInit K) [] E0 ta σ H Q := by
  refine mono _ _ (fun vs H1 hh => ?_) h
  obtain ⟨t, ms, rfl, hs, c, q⟩ := hh
  intro x dx nx ndx ne
  have k0 : Same H1 (upd (upd H1 dx (.own x)) x (.ins (cS K) dx [])) := fun b o e => by
    rw [upd_ne (ne_of_none e nx), upd_ne (ne_of_none e ndx)]
    exact e
  refine ⟨x, dx, t, ms, rfl, upd_same, sqT_same k0 hs, c, fun H' k1 k2 => ⟨rfl, ?_⟩⟩
  have k3 : Same H1 H' := fun b o e => k1 _ _ (ne_of_none e nx) (k0 _ _ e)
  exact q x H' k3 nx ⟨dx, t, k2, sqT_same k3 hs⟩
/-! ### in -/
def spCont (K : PySem.W.Frag) : Sp := fun vs H Q _ => ∃ (a p : Addr) (ms : List Nat) (i j : Nat), vs = [.ref a, .ref p] ∧ StAt K H a ms ∧ ms.length ≤ 6 ∧ SqT K H p [.int (i : Nat), .int (j : Nat)] ∧ i < ms.length ∧ j < ms.length ∧ ∀ H', Same H H' → Q (.bl (gd ms i == gd ms j)) H'
theorem ok_Cont {f : Addr} {fd : FuncData} (T : Txt K mg) (F : FnP K "__contains__" "Standing.__contains__" sCont f fd) (GIsInt : Pr P w K mg base 1 (ga K "is_int") ["value"] (spIsInt K)) : Pr P w K mg base 2 f ["self", "value"] (spCont K) := by
  refine .of (F.ok scCont (fun vs H Q E h => ?_) (fun cdv A outer s H vs Q E hr h => ⟨_, PSs.nox (pss_cons (ps_if (PW.pt (pw_or (pt_not (pt_val (pe_callB (isiK K) rfl (T.free _ (by decide +kernel)) (by decide +kernel) (pa_cons (pv 1) (pa_cons (pe_bltn (v := .ty "tuple") rfl (T.free _ (by decide +kernel)) (by decide +kernel) rfl) pa_nil))))) (pw_or1 (pt_cmpR op_ne (pe_callB (lenK K) rfl (T.free _ (by decide +kernel)) (by decide +kernel) (pa_cons (pv 1) pa_nil)) pe_int (nomark _))))) (pss_one (ps_ret pe_bl)) pss_nil) (pss_cons (ps_if (pt_not (pt_val (pe_callB (cr_all rfl) rfl (T.free _ (by decide +kernel)) (by decide +kernel) (pa_cons (pe_lc (own := [("thing", 2)]) (g := gName 2) (tt := tYes) rfl scCont.nd (pi_tup (pv 1)) (blkOk_by (N := nCont) (sc := defScope sCont) (by decide +kernel)) (fun _ _ _ _ _ => (pg_name (i := 2) scCont.nd rfl (Or.inl rfl))) (fun _ _ _ _ _ => pts_nil) (fun _ _ _ _ _ => (pe_and (pcl GIsInt (hr.mono (by decide)) rfl (T.gl "is_int" (by decide +kernel)) (pa_cons (pv 2) pa_nil)) (pe_one (pe_chain op_le op_lt pe_int (pv 2) (pe_callB (lenK K) rfl (T.free _ (by decide +kernel)) (by decide +kernel) (pa_cons (fldK K (pv 0)) pa_nil))))))) pa_nil)))) (pss_one (ps_ret pe_bl)) pss_nil) (pss_one (ps_ret (pe_cmpR op_eq (pe_ix (ixT K) (fldK K (pv 0)) (pe_ix (ixT K) (pv 1) pe_int (fun _ _ => rfl)) (fun _ _ => rfl)) (pe_ix (ixT K) (fldK K (pv 0)) (pe_ix (ixT K) (pv 1) pe_int (fun _ _ => rfl)) (fun _ _ => rfl)) (nomark _)))))), ?_⟩)) (F.bindsN fun _ _ _ _ _ _ us hl => match us, hl with | [_, _], _ => rfl) F.kp
  · obtain ⟨a, p, ms, i, j, rfl, _⟩ := h
    rfl
  · obtain ⟨a, p, ms, i, j, rfl, ⟨dx, t, ea, hs⟩, l6, hp, hi, hj, q⟩ := h
    have big := big_line
    refine ⟨_, rfl, .ref p, _, _, _, true, rfl, .ty _, ty_tup hp, kit_ty (by decide +kernel), true, rfl, iteF ?_⟩
    refine ⟨_, rfl, p, _, rfl, .inr hp, rfl, _, rfl, ifF rfl ?_⟩
    refine ⟨_, rfl, p, rfl, ⟨_, hp⟩, fun D hD => lc_tup (K := K) (a := p) (xs := [.int (i : Nat), .int (j : Nat)]) (fun n H' => H' D = some (.lst (List.replicate n (V.bl true))) ∧ Same H H') ⟨upd_same, fun c o e => by rw [upd_ne (ne_of_none e hD)]; exact e⟩ (fun i H' _ z => sqT_same z.2 hp) ?_ ?_⟩
    · rintro n x H1 hx ⟨h1, s1⟩
      have hn : n < 2 := (List.getElem?_eq_some_iff.mp hx).1
      have hx2 : ∃ m : Nat, x = .int (m : Nat) ∧ m < ms.length := by
        match n, hx with
        | 0, hx => exact ⟨i, (Option.some.inj hx).symm, hi⟩
        | 1, hx => exact ⟨j, (Option.some.inj hx).symm, hj⟩
      obtain ⟨m, rfl, hm⟩ := hx2
      refine ⟨rfl, _, rfl, _, _, true, false, rfl, .base (.int _), kit_ty (by decide +kernel), kit_ty (by decide +kernel), _, rfl, iteT ?_⟩
      refine ⟨_, rfl, _, _, rfl, rfl, _, rfl, ifT (decide_eq_true (by omega)) ⟨_, rfl, a, _, dx, _, _, rfl, s1 _ _ ea, T.cls, T.nof, rfl, t, mv ms, rfl, .inr (sqT_same s1 hs), _, _, rfl, rfl, ?_⟩⟩
      have e : decide ((m : Int) < ((mv ms).length : Int)) = true := by rw [mv_len]; exact decide_eq_true (by omega)
      show ∃ acc, H1 D = some (.lst acc) ∧ acc.length < sizeLine ∧ upd H1 D (.lst (acc ++ [V.bl (decide ((m : Int) < ((mv ms).length : Int)))])) D = _ ∧ Same H (upd H1 D (.lst (acc ++ [V.bl (decide ((m : Int) < ((mv ms).length : Int)))])))
      rw [e]
      refine ⟨_, h1, by rw [List.length_replicate]; omega, ?_, fun c o e => ?_⟩
      · rw [upd_same, List.replicate_succ']
      · rw [upd_ne (ne_of_none e hD)]
        exact s1 _ _ e
    · rintro H1 ⟨h1, s1⟩
      refine ⟨D, [true, true], rfl, SqL.of h1, true, rfl, iteF ?_⟩
      refine ⟨_, rfl, a, _, dx, _, _, rfl, s1 _ _ ea, T.cls, T.nof, rfl, _, rfl, p, _, ((0 : Nat) : Int), _, rfl, rfl, sqT_same s1 hp, atI_nat rfl, t, mv ms, _, _, rfl, rfl, sqT_same s1 hs, mv_at hi, ?_⟩
      refine ⟨_, rfl, a, _, dx, _, _, rfl, s1 _ _ ea, T.cls, T.nof, rfl, _, rfl, p, _, ((1 : Nat) : Int), _, rfl, rfl, sqT_same s1 hp, atI_nat rfl, t, mv ms, _, _, rfl, rfl, sqT_same s1 hs, mv_at hj, rfl, ?_⟩
      have e : decide (V.int (gd ms i : Nat) = V.int (gd ms j : Nat)) = (gd ms i == gd ms j) := by
        rw [dec_int, Bool.eq_iff_iff, beq_iff_eq, beq_iff_eq]
        omega
      rw [e]
      exact q _ s1
/-! ### == -/
def spEq (K : PySem.W.Frag) : Sp := fun vs H Q _ => ∃ (a b : Addr) (ms os : List Nat), vs = [.ref a, .ref b] ∧ StAt K H a ms ∧ StAt K H b os ∧ Q (.bl (decide (ms = os))) H
theorem ok_Eq {f : Addr} {fd : FuncData} (T : Txt K mg) (F : FnP K "__eq__" "Standing.__eq__" sEq f fd) : Pr P w K mg base 1 f ["self", "other"] (spEq K) := by
  refine .of (F.ok scEq (fun vs H Q E h => ?_) (fun cdv A outer s H vs Q E hr h => ⟨_, PSs.nox (pss_one (ps_ret (pe_and (pe_callB (isiK K) rfl (T.free _ (by decide +kernel)) (by decide +kernel) (pa_cons (pv 1) (pa_cons (pe_glob (v := .ref (cS _)) rfl T.gS rfl) pa_nil))) (pe_one (pe_cmpR (eqK K (by have := hr.un; show (A.deeper _).units + 64 < cLine; omega)) (fldK K (pv 0)) (fldK K (pv 1)) (nomark _)))))), ?_⟩)) (F.bindsN fun _ _ _ _ _ _ us hl => match us, hl with | [_, _], _ => rfl) F.kp
  · obtain ⟨a, b, ms, os, rfl, _⟩ := h
    rfl
  · obtain ⟨a, b, ms, os, rfl, ⟨dx, t, ea, hs⟩, ⟨dy, u, eb, hu⟩, q⟩ := h
    refine ⟨_, rfl, .ref b, _, _, _, true, rfl, .own _, .base (.ins eb T.cls T.ca T.cg T.ct T.obj), T.kit, true, rfl, iteT ?_⟩
    refine ⟨_, rfl, a, _, dx, _, _, rfl, ea, T.cls, T.nof, rfl, _, rfl, b, _, dy, _, _, rfl, eb, T.cls, T.nof, rfl, .tuple (ms.map fun n : Nat => PyData.int n), .tuple (os.map fun n : Nat => PyData.int n), .tup hs (dp_mv ms), .tup hu (dp_mv os), shaped_mv ms, shaped_mv os, ?_⟩
    rw [eqv_mv]
    exact q
end
end K03

set_option Elab.async false
set_option linter.all false
set_option maxRecDepth 100000
set_option maxHeartbeats 4000000
/-! Marks as partitions: what | and & come to. -/
namespace K03
open PySem PySem.Spec PyProof.Rows L2 Lw
theorem gd_map {f : Nat → Nat} {ms : List Nat} {i : Nat} (h : i < ms.length) : gd (ms.map f) i = f (gd ms i) := by
  unfold gd
  rw [List.getD_eq_getElem?_getD, List.getElem?_map, List.getD_eq_getElem?_getD, List.getElem?_eq_getElem h]
  rfl
theorem merge_len (ms : List Nat) (a b : Nat) : (mergeM ms a b).length = ms.length := List.length_map ..
theorem gd_merge {ms : List Nat} {a b i : Nat} (h : i < ms.length) : gd (mergeM ms a b) i = if gd ms i = max (gd ms a) (gd ms b) then min (gd ms a) (gd ms b) else gd ms i := gd_map h
theorem gd_ext {ms os : List Nat} (hl : ms.length = os.length) (h : ∀ i, i < ms.length → gd ms i = gd os i) : ms = os := by
  refine List.ext_getElem hl fun i h1 h2 => ?_
  have e := h i h1
  unfold gd at e
  rwa [List.getD_eq_getElem?_getD, List.getD_eq_getElem?_getD, List.getElem?_eq_getElem h1, List.getElem?_eq_getElem h2] at e
theorem merge_canon {ms : List Nat} {a b : Nat} (c : Canon ms) (ha : a < ms.length) (hb : b < ms.length) : Canon (mergeM ms a b) := by
  have la := c.lt ha
  have lb := c.lt hb
  have fa := c.fix a ha
  have fb := c.fix b hb
  have le : ∀ i, i < ms.length → gd (mergeM ms a b) i ≤ i := fun i hi => by
    have h1 := c.le i hi
    rw [gd_merge hi]
    split <;> omega
  refine ⟨by rw [merge_len]; exact c.lo, by rw [merge_len]; exact c.hi, fun i hi => le i (by rwa [merge_len] at hi), fun i hi => ?_⟩
  rw [merge_len] at hi
  have li := c.lt hi
  have fi := c.fix i hi
  have hm := le i hi
  rw [gd_merge (Nat.lt_of_le_of_lt hm hi), gd_merge hi]
  by_cases e : gd ms i = max (gd ms a) (gd ms b)
  · rw [if_pos e]
    have hmin : gd ms (min (gd ms a) (gd ms b)) = min (gd ms a) (gd ms b) := by
      rcases Nat.le_total (gd ms a) (gd ms b) with z | z
      · rw [Nat.min_eq_left z]; exact fa
      · rw [Nat.min_eq_right z]; exact fb
    rw [hmin]
    split <;> rfl
  · rw [if_neg e, fi, if_neg e]
/-- what hangs together by the one does by the other -/
def Le (ms os : List Nat) : Prop := ∀ i, i < ms.length → gd os i = gd os (gd ms i)
def withinB (ms os : List Nat) : Bool := (List.range ms.length).all fun i => gd os i == gd os (gd ms i)
theorem within_iff {ms os : List Nat} : withinB ms os = true ↔ Le ms os := by
  unfold withinB Le
  rw [List.all_eq_true]
  constructor
  · intro h i hi
    exact beq_iff_eq.mp (h i (List.mem_range.mpr hi))
  · intro h i hi
    exact beq_iff_eq.mpr (h i (List.mem_range.mp hi))
theorem le_refl {ms : List Nat} (c : Canon ms) : Le ms ms := fun i hi => (c.fix i hi).symm
theorem le_rel {ms os : List Nat} (h : Le ms os) {i j : Nat} (hi : i < ms.length) (hj : j < ms.length) (e : gd ms i = gd ms j) : gd os i = gd os j := by rw [h i hi, h j hj, e]
theorem le_of_rel {ms os : List Nat} (c : Canon ms) (h : ∀ i j, i < ms.length → j < ms.length → gd ms i = gd ms j → gd os i = gd os j) : Le ms os := fun i hi => h i _ hi (c.lt hi) (c.fix i hi).symm
theorem le_trans {ms os ps : List Nat} (c : Canon ms) (hl : ms.length = os.length) (h1 : Le ms os) (h2 : Le os ps) : Le ms ps :=
  le_of_rel c fun i j hi hj e => le_rel h2 (hl ▸ hi) (hl ▸ hj) (le_rel h1 hi hj e)
theorem le_antisymm {ms os : List Nat} (c : Canon ms) (d : Canon os) (hl : ms.length = os.length) (h1 : Le ms os) (h2 : Le os ms) : ms = os := by
  refine gd_ext hl fun i hi => ?_
  have hi2 : i < os.length := hl ▸ hi
  have a1 : gd ms i = gd ms (gd os i) := h2 i hi2
  have a2 : gd os i = gd os (gd ms i) := h1 i hi
  have b1 := c.le (gd os i) (hl ▸ d.lt hi2)
  have b2 := d.le (gd ms i) (hl ▸ c.lt hi)
  omega
/-! ### | -/
def orTo (ms os : List Nat) (i : Nat) : List Nat := (List.range i).foldl (fun t k => mergeM t k (gd os k)) ms
def orM (ms os : List Nat) : List Nat := orTo ms os os.length
theorem orTo_succ (ms os : List Nat) (i : Nat) : orTo ms os (i + 1) = mergeM (orTo ms os i) i (gd os i) := by
  unfold orTo
  rw [List.range_succ, List.foldl_append]
  rfl
theorem orTo_ok {ms os : List Nat} (c : Canon ms) (d : Canon os) (hl : ms.length = os.length) : ∀ i, i ≤ os.length → Canon (orTo ms os i) ∧ (orTo ms os i).length = ms.length ∧ Le ms (orTo ms os i) ∧ (∀ k, k < i → gd (orTo ms os i) k = gd (orTo ms os i) (gd os k)) ∧
    ∀ ps, ps.length = ms.length → Le ms ps → Le os ps → Le (orTo ms os i) ps
  | 0, _ => ⟨c, rfl, le_refl c, fun k hk => absurd hk (Nat.not_lt_zero k), fun ps _ h _ => h⟩
  | i + 1, hi => by
    obtain ⟨h1, h2, h3, h4, h5⟩ := orTo_ok c d hl i (Nat.le_of_succ_le hi)
    have li : i < (orTo ms os i).length := by omega
    have lo : gd os i < (orTo ms os i).length := by have := d.lt (i := i) (by omega); omega
    rw [orTo_succ]
    have mg : ∀ {j k : Nat}, j < (orTo ms os i).length → k < (orTo ms os i).length → gd (orTo ms os i) j = gd (orTo ms os i) k → gd (mergeM (orTo ms os i) i (gd os i)) j = gd (mergeM (orTo ms os i) i (gd os i)) k := fun hj hk e => by
      rw [gd_merge hj, gd_merge hk, e]
    refine ⟨merge_canon h1 li lo, by rw [merge_len, h2], ?_, ?_, ?_⟩
    · refine le_of_rel c fun j k hj hk e => ?_
      exact mg (by omega) (by omega) (le_rel h3 hj hk e)
    · intro k hk
      have lk : k < os.length := by omega
      have ld := d.lt lk
      by_cases e : k = i
      · subst e
        rw [gd_merge li, gd_merge lo]
        split <;> split <;> omega
      · exact mg (by omega) (by omega) (h4 k (by omega))
    · intro ps hp k1 k2
      have k3 := h5 ps hp k1 k2
      have kk := k2 i (by omega)
      refine le_of_rel (merge_canon h1 li lo) fun j k hj hk e => ?_
      rw [merge_len] at hj hk
      -- the class of i, and of its mark, are one in ps
      have r1 : gd ps (gd (orTo ms os i) i) = gd ps i := (k3 i li).symm
      have r2 : gd ps (gd (orTo ms os i) (gd os i)) = gd ps (gd os i) := (k3 _ lo).symm
      have red : ∀ j, j < (orTo ms os i).length → gd ps (gd (mergeM (orTo ms os i) i (gd os i)) j) = gd ps j := fun j hj => by
        have rj := k3 j hj
        rw [gd_merge hj]
        by_cases e : gd (orTo ms os i) j = max (gd (orTo ms os i) i) (gd (orTo ms os i) (gd os i))
        · rw [if_pos e]
          rw [rj, e]
          rcases Nat.le_total (gd (orTo ms os i) i) (gd (orTo ms os i) (gd os i)) with z | z
          · rw [Nat.min_eq_left z, Nat.max_eq_right z, r1, r2, kk]
          · rw [Nat.min_eq_right z, Nat.max_eq_left z, r1, r2, kk]
        · rw [if_neg e]
          exact rj.symm
      rw [← red j hj, ← red k hk, e]
structure Same3 (ms os ps : List Nat) : Prop where
  l1 : ms.length = os.length
  l2 : ms.length = ps.length
theorem or_canon {ms os : List Nat} (c : Canon ms) (d : Canon os) (hl : ms.length = os.length) : Canon (orM ms os) := (orTo_ok c d hl _ (Nat.le_refl _)).1
theorem or_len {ms os : List Nat} (c : Canon ms) (d : Canon os) (hl : ms.length = os.length) : (orM ms os).length = ms.length := (orTo_ok c d hl _ (Nat.le_refl _)).2.1
theorem or_left {ms os : List Nat} (c : Canon ms) (d : Canon os) (hl : ms.length = os.length) : Le ms (orM ms os) := (orTo_ok c d hl _ (Nat.le_refl _)).2.2.1
theorem or_right {ms os : List Nat} (c : Canon ms) (d : Canon os) (hl : ms.length = os.length) : Le os (orM ms os) := fun i hi => (orTo_ok c d hl _ (Nat.le_refl _)).2.2.2.1 i hi
theorem or_least {ms os ps : List Nat} (c : Canon ms) (d : Canon os) (hl : ms.length = os.length) (hp : ps.length = ms.length) (h1 : Le ms ps) (h2 : Le os ps) : Le (orM ms os) ps := (orTo_ok c d hl _ (Nat.le_refl _)).2.2.2.2 ps hp h1 h2
/-! ### & -/
def andM (ms os : List Nat) : List Nat := (ms.zip os).map fun p => (ms.zip os).idxOf p
theorem and_len {ms os : List Nat} (hl : ms.length = os.length) : (andM ms os).length = ms.length := by
  unfold andM
  rw [List.length_map, List.length_zip]
  omega
theorem zip_at {ms os : List Nat} (hl : ms.length = os.length) {i : Nat} (h : i < ms.length) : (ms.zip os)[i]? = some (gd ms i, gd os i) := by
  unfold gd
  rw [List.getElem?_zip_eq_some, List.getD_eq_getElem?_getD, List.getD_eq_getElem?_getD, List.getElem?_eq_getElem h, List.getElem?_eq_getElem (hl ▸ h)]
  exact ⟨rfl, rfl⟩
theorem gd_and {ms os : List Nat} (hl : ms.length = os.length) {i : Nat} (h : i < ms.length) : gd (andM ms os) i = (ms.zip os).idxOf (gd ms i, gd os i) := by
  have e : gd (andM ms os) i = (((andM ms os)[i]?).getD 0) := by
    unfold gd
    exact List.getD_eq_getElem?_getD ..
  rw [e]
  unfold andM
  rw [List.getElem?_map, zip_at hl h]
  rfl
theorem idxOf_le {α : Type} [BEq α] [LawfulBEq α] {x : α} : ∀ {l : List α} {i : Nat}, l[i]? = some x → l.idxOf x ≤ i
  | [], i, h => by simp at h
  | y :: l, i, h => by
    rw [List.idxOf_cons]
    by_cases e : y = x
    · subst e
      simp
    · have e2 : (y == x) = false := beq_eq_false_iff_ne.mpr e
      rw [e2]
      cases i with
      | zero => exact absurd (Option.some.inj h) e
      | succ i => exact Nat.succ_le_succ (idxOf_le (l := l) h)
theorem idx_spec {ms os : List Nat} (hl : ms.length = os.length) {i : Nat} (h : i < ms.length) : (ms.zip os).idxOf (gd ms i, gd os i) ≤ i ∧ gd ms ((ms.zip os).idxOf (gd ms i, gd os i)) = gd ms i ∧ gd os ((ms.zip os).idxOf (gd ms i, gd os i)) = gd os i := by
  have hz : i < (ms.zip os).length := by rw [List.length_zip]; omega
  have ei : (ms.zip os)[i] = (gd ms i, gd os i) := by
    have e := zip_at hl h
    rw [List.getElem?_eq_getElem hz] at e
    exact Option.some.inj e
  have hm : (gd ms i, gd os i) ∈ ms.zip os := ei ▸ List.getElem_mem hz
  have lt := List.idxOf_lt_length_iff.mpr hm
  have at_ : (ms.zip os)[(ms.zip os).idxOf (gd ms i, gd os i)] = (gd ms i, gd os i) := List.getElem_idxOf lt
  have lt2 : (ms.zip os).idxOf (gd ms i, gd os i) < ms.length := by rw [List.length_zip] at lt; omega
  have e2 := zip_at hl lt2
  rw [List.getElem?_eq_getElem lt, at_] at e2
  have e3 := Option.some.inj e2
  refine ⟨?_, (congrArg Prod.fst e3).symm, (congrArg Prod.snd e3).symm⟩
  exact idxOf_le (zip_at hl h)
theorem and_canon {ms os : List Nat} (c : Canon ms) (hl : ms.length = os.length) : Canon (andM ms os) := by
  refine ⟨by rw [and_len hl]; exact c.lo, by rw [and_len hl]; exact c.hi, fun i hi => ?_, fun i hi => ?_⟩
  · rw [and_len hl] at hi
    rw [gd_and hl hi]
    exact (idx_spec hl hi).1
  · rw [and_len hl] at hi
    obtain ⟨a1, a2, a3⟩ := idx_spec hl hi
    rw [gd_and hl hi, gd_and hl (Nat.lt_of_le_of_lt a1 hi), a2, a3]
theorem and_rel {ms os : List Nat} (hl : ms.length = os.length) {i j : Nat} (hi : i < ms.length) (hj : j < ms.length) : gd (andM ms os) i = gd (andM ms os) j ↔ gd ms i = gd ms j ∧ gd os i = gd os j := by
  obtain ⟨a1, a2, a3⟩ := idx_spec hl hi
  obtain ⟨b1, b2, b3⟩ := idx_spec hl hj
  rw [gd_and hl hi, gd_and hl hj]
  constructor
  · intro e
    rw [e] at a2 a3
    exact ⟨a2.symm.trans b2, a3.symm.trans b3⟩
  · rintro ⟨e1, e2⟩
    rw [e1, e2]
theorem and_left {ms os : List Nat} (c : Canon ms) (hl : ms.length = os.length) : Le (andM ms os) ms := by
  refine le_of_rel (and_canon c hl) fun i j hi hj e => ?_
  rw [and_len hl] at hi hj
  exact ((and_rel hl hi hj).mp e).1
theorem and_right {ms os : List Nat} (c : Canon ms) (hl : ms.length = os.length) : Le (andM ms os) os := by
  refine le_of_rel (and_canon c hl) fun i j hi hj e => ?_
  rw [and_len hl] at hi hj
  exact ((and_rel hl hi hj).mp e).2
theorem and_most {ms os ps : List Nat} (hl : ms.length = os.length) (e : Canon ps) (hp : ps.length = ms.length) (h1 : Le ps ms) (h2 : Le ps os) : Le ps (andM ms os) :=
  le_of_rel e fun i j hi hj q => (and_rel hl (hp ▸ hi) (hp ▸ hj)).mpr ⟨le_rel h1 hi hj q, le_rel h2 hi hj q⟩
/-! ### what the law asks of three of one length -/
theorem bare_canon {n : Nat} (h1 : 3 ≤ n) (h2 : n ≤ 6) : Canon (List.range n) := by
  have g : ∀ i, i < n → gd (List.range n) i = i := fun i hi => by
    unfold gd
    rw [List.getD_eq_getElem?_getD, List.getElem?_range hi]
    rfl
  refine ⟨by rw [List.length_range]; exact h1, by rw [List.length_range]; exact h2, fun i hi => ?_, fun i hi => ?_⟩
  · rw [List.length_range] at hi
    rw [g i hi]
    exact Nat.le_refl i
  · rw [List.length_range] at hi
    rw [g i hi, g i hi]
theorem bare_le {n : Nat} {ms : List Nat} : Le (List.range n) ms := fun i hi => by
  rw [List.length_range] at hi
  unfold gd
  rw [List.getD_eq_getElem?_getD, List.getD_eq_getElem?_getD, List.getD_eq_getElem?_getD, List.getElem?_range hi]
  rfl
/-- two of one length are alike where just the same lie above -/
theorem eq_of_up {ms os : List Nat} (c : Canon ms) (d : Canon os) (hl : ms.length = os.length) (h : ∀ ps, Canon ps → ps.length = ms.length → (Le ms ps ↔ Le os ps)) : ms = os :=
  le_antisymm c d hl ((h os d hl.symm).mpr (le_refl d)) ((h ms c rfl).mp (le_refl c))
theorem eq_of_down {ms os : List Nat} (c : Canon ms) (d : Canon os) (hl : ms.length = os.length) (h : ∀ ps, Canon ps → ps.length = ms.length → (Le ps ms ↔ Le ps os)) : ms = os :=
  le_antisymm c d hl ((h ms c rfl).mp (le_refl c)) ((h os d hl.symm).mpr (le_refl d))
section
variable {a b p : List Nat}
theorem or_iff (c : Canon a) (d : Canon b) (hl : a.length = b.length) (hp : p.length = a.length) : Le (orM a b) p ↔ Le a p ∧ Le b p :=
  ⟨fun h => ⟨le_trans c (or_len c d hl).symm (or_left c d hl) h, le_trans d (by rw [or_len c d hl]; exact hl.symm) (or_right c d hl) h⟩, fun h => or_least c d hl hp h.1 h.2⟩
theorem and_iff (c : Canon a) (d : Canon b) (hl : a.length = b.length) (e : Canon p) (hp : p.length = a.length) : Le p (andM a b) ↔ Le p a ∧ Le p b :=
  ⟨fun h => ⟨le_trans e (by rw [and_len hl]; exact hp) h (and_left c hl), le_trans e (by rw [and_len hl]; exact hp) h (and_right c hl)⟩, fun h => and_most hl e hp h.1 h.2⟩
theorem within_or (c : Canon a) (d : Canon b) (hl : a.length = b.length) (hp : p.length = a.length) : withinB (orM a b) p = (withinB a p && withinB b p) := by
  rw [Bool.eq_iff_iff, Bool.and_eq_true, within_iff, within_iff, within_iff]
  exact or_iff c d hl hp
theorem within_and (c : Canon a) (d : Canon b) (hl : a.length = b.length) (e : Canon p) (hp : p.length = a.length) : withinB p (andM a b) = (withinB p a && withinB p b) := by
  rw [Bool.eq_iff_iff, Bool.and_eq_true, within_iff, within_iff, within_iff]
  exact and_iff c d hl e hp
theorem or_assoc3 (c : Canon a) (d : Canon b) (e : Canon p) (h1 : a.length = b.length) (h2 : a.length = p.length) : orM (orM a b) p = orM a (orM b p) := by
  have h3 : b.length = p.length := h1.symm.trans h2
  have l1 := or_len c d h1
  have l2 := or_len d e h3
  have cab := or_canon c d h1
  have cbp := or_canon d e h3
  refine eq_of_up (or_canon cab e (by omega)) (or_canon c cbp (by omega)) (by rw [or_len cab e (by omega), or_len c cbp (by omega)]; omega) fun q cq hq => ?_
  rw [or_len cab e (by omega)] at hq
  rw [or_iff cab e (by omega) (by omega), or_iff c d h1 (by omega), or_iff c cbp (by omega) (by omega), or_iff d e h3 (by omega)]
  exact and_assoc
theorem and_assoc3 (c : Canon a) (d : Canon b) (e : Canon p) (h1 : a.length = b.length) (h2 : a.length = p.length) : andM (andM a b) p = andM a (andM b p) := by
  have h3 : b.length = p.length := h1.symm.trans h2
  have l1 := and_len (ms := a) (os := b) h1
  have l2 := and_len (ms := b) (os := p) h3
  have cab := and_canon (os := b) c h1
  have cbp := and_canon (os := p) d h3
  have l3 := and_len (ms := andM a b) (os := p) (by omega)
  have l4 := and_len (ms := a) (os := andM b p) (by omega)
  refine eq_of_down (and_canon (os := p) cab (by omega)) (and_canon (os := andM b p) c (by omega)) (by omega) fun q cq hq => ?_
  rw [l3] at hq
  rw [and_iff cab e (by omega) cq (by omega), and_iff c d h1 cq (by omega), and_iff c cbp (by omega) cq (by omega), and_iff d e h3 cq (by omega)]
  exact and_assoc
theorem or_and_self (c : Canon a) (d : Canon b) (hl : a.length = b.length) : orM a (andM a b) = a := by
  have l := and_len (ms := a) (os := b) hl
  have k := and_canon (os := b) c hl
  refine le_antisymm (or_canon c k (by omega)) c (or_len c k (by omega)) ?_ (or_left c k (by omega))
  exact or_least c k (by omega) rfl (le_refl c) (and_left c hl)
theorem and_or_self (c : Canon a) (d : Canon b) (hl : a.length = b.length) : andM a (orM a b) = a := by
  have l := or_len c d hl
  have k := or_canon c d hl
  refine le_antisymm (and_canon c (by omega)) c (and_len (by omega)) (and_left c (by omega)) ?_
  exact and_most (by omega) c rfl (le_refl c) (or_left c d hl)
theorem or_bare (c : Canon a) : orM a (List.range a.length) = a := by
  have k := bare_canon c.lo c.hi
  refine le_antisymm (or_canon c k (by rw [List.length_range])) c (or_len c k (by rw [List.length_range])) ?_ (or_left c k (by rw [List.length_range]))
  exact or_least c k (by rw [List.length_range]) rfl (le_refl c) bare_le
theorem and_bare (c : Canon a) : andM a (List.range a.length) = List.range a.length := by
  have k := bare_canon c.lo c.hi
  refine le_antisymm (and_canon c (by rw [List.length_range])) k (by rw [and_len (by rw [List.length_range]), List.length_range]) (and_right c (by rw [List.length_range])) bare_le
end
end K03

set_option Elab.async false
set_option linter.all false
set_option maxRecDepth 100000
set_option maxHeartbeats 4000000
namespace K03
open PySem PySem.Spec PyProof.Rows L2 Lw
section
variable {P : Program} {w : World} {K : PySem.W.Frag} {mg : Str → Option Value} {base : Heap}
theorem same_updN {H : Hp} {p : Addr} {o : HO} (n : H p = none) : Same H (upd H p o) := fun b u e => by
  rw [upd_ne (ne_of_none e n)]
  exact e
/-- Standing(t), t the marks of a standing -/
theorem mk_fin {H1 : Hp} {Q : VK} {t : Addr} {ms : List Nat} (hs : SqT K H1 t (mv ms)) (c : Canon ms) (q : ∀ (x : Addr) (H' : Hp), Same H1 H' → H1 x = none → StAt K H' x ms → Q (.ref x) H') :
    ∀ x dx, H1 x = none → H1 dx = none → dx ≠ x → spInit K (.ref x :: ([.ref t] ++ [])) (upd (upd H1 dx (.own x)) x (.ins (cS K) dx [])) (fun v H2 => v = .non ∧ Q (.ref x) H2) E0 := by
  intro x dx nx ndx ne
  have k0 : Same H1 (upd (upd H1 dx (.own x)) x (.ins (cS K) dx [])) := fun b o e => by
    rw [upd_ne (ne_of_none e nx), upd_ne (ne_of_none e ndx)]
    exact e
  refine ⟨x, dx, t, ms, rfl, upd_same, sqT_same k0 hs, c, fun H' k1 k2 => ⟨rfl, ?_⟩⟩
  have k3 : Same H1 H' := fun b o e => k1 _ _ (ne_of_none e nx) (k0 _ _ e)
  exact q x H' k3 nx ⟨dx, t, k2, sqT_same k3 hs⟩
/-! ### bare -/
def spBare (K : PySem.W.Frag) : Sp := fun vs H Q _ => ∃ n : Nat, vs = [.int (n : Nat)] ∧ 1 ≤ n ∧ n ≤ 4 ∧ ∀ (x : Addr) (H' : Hp), Same H H' → H x = none → StAt K H' x (List.range (n + 2)) → Q (.ref x) H'
theorem mv_range (n : Nat) : rgV 0 ((n : Int) + 2) = mv (List.range (n + 2)) := by
  unfold rgV mv
  have e : ((n : Int) + 2 - 0).toNat = n + 2 := by omega
  rw [e]
  refine List.map_congr_left fun i _ => ?_
  rw [Int.zero_add]
theorem ok_Bare {f : Addr} {fd : FuncData} (T : Txt K mg) (F : FnP K "bare" "Standing.bare" sBare f fd) (GIsInt : Pr P w K mg base 1 (ga K "is_int") ["value"] (spIsInt K)) (GInit : Pr P w K mg base 3 (ma K (cS K) "__init__") ["self", "marks"] (spInit K)) :
    Pr P w K mg base 5 f ["wires"] (spBare K) := by
  refine .of (F.ok scBare (fun vs H Q E h => ?_) (fun cdv A outer s H vs Q E hr h => ⟨_, PSs.nox (pss_cons (ps_if (PW.pt (pw_or (pt_not (pt_val (pcl GIsInt (hr.mono (by decide)) rfl (T.gl "is_int" (by decide +kernel)) (pa_cons (pv 0) pa_nil)))) (pw_or1 (pt_not (pt_chain op_le op_le (pe_glob (v := .int 1) rfl (T.nums "LEAST_WIRES" 1 (by decide)).choose_spec ⟨_, rfl⟩) (pv 0) (pe_glob (v := .int 4) rfl (T.nums "MOST_WIRES" 4 (by decide)).choose_spec ⟨_, rfl⟩)))))) (pss_one ps_never) pss_nil) (pss_one (ps_ret (pmk T.mkr GInit (hr.mono (by decide)) rfl T.gS (pa_cons (pe_tupRg rfl rfl (T.free _ (by decide +kernel)) (prg_1 rfl (T.free _ (by decide +kernel)) (pe_op op_add (pv 0) pe_int))) pa_nil))))), ?_⟩)) (F.bindsN fun _ _ _ _ _ _ us hl => match us, hl with | [_], _ => rfl) F.kp
  · obtain ⟨n, rfl, _⟩ := h
    rfl
  · obtain ⟨n, rfl, h1, h2, q⟩ := h
    refine ⟨_, rfl, _, _, true, false, rfl, .base (.int _), kit_ty (by decide +kernel), kit_ty (by decide +kernel), _, rfl, iteF ?_⟩
    refine ⟨_, rfl, _, _, rfl, rfl, _, rfl, ifT (decide_eq_true (by omega)) ⟨_, _, rfl, rfl, _, rfl, ifF (not_dec (by omega)) ?_⟩⟩
    refine ⟨_, rfl, (n : Int), 2, rfl, rfl, (n : Int) + 2, rfl, ⟨by omega, by omega, by omega, by omega, by omega⟩, fun t nt => mk_fin (t := t) (ms := List.range (n + 2)) (SqT.of (by rw [upd_same, mv_range])) (bare_canon (by omega) (by omega)) fun x H' s1 nx st => ?_⟩
    refine q x H' (fun b o e => s1 _ _ (by rw [upd_ne (ne_of_none e nt)]; exact e)) ?_ st
    cases hx : H x with
    | none => rfl
    | some o =>
      rw [upd_ne (ne_of_none hx nt), hx] at nx
      cases nx
/-! ### within -/
def spWithin (K : PySem.W.Frag) : Sp := fun vs H Q _ => ∃ (a b : Addr) (ms os : List Nat), vs = [.ref a, .ref b] ∧ StAt K H a ms ∧ StAt K H b os ∧ Canon ms ∧ ms.length = os.length ∧ ∀ H', Same H H' → Q (.bl (withinB ms os)) H'
theorem ok_Within {f : Addr} {fd : FuncData} (T : Txt K mg) (F : FnP K "within" "Standing.within" sWithin f fd) (GChk : Pr P w K mg base 3 (ga K "check_wires") ["one", "other"] (spChk K)) (GCont : Pr P w K mg base 2 (ma K (cS K) "__contains__") ["self", "value"] (spCont K)) :
    Pr P w K mg base 4 f ["self", "other"] (spWithin K) := by
  refine .of (F.ok scWithin (fun vs H Q E h => ?_) (fun cdv A outer s H vs Q E hr h => ⟨_, PSs.nox (pss_cons (ps_expr (pcl GChk (hr.mono (by decide)) rfl (T.gl "check_wires" (by decide +kernel)) (pa_cons (pv 0) (pa_cons (pv 1) pa_nil)))) (pss_one (ps_ret (pe_callB (cr_all rfl) rfl (T.free _ (by decide +kernel)) (by decide +kernel) (pa_cons (pe_lc (own := [("at", 2), ("mark", 3)]) (g := _) (tt := tYes) rfl scWithin.nd (pi_enumT rfl (T.free _ (by decide +kernel)) (pa_cons (fldK K (pv 0)) pa_nil)) (blkOk_by (N := nWithin) (sc := defScope sWithin) (by decide +kernel)) (fun _ _ _ _ _ => (tupG K 2 (pgs_cons (pg_name (i := 2) scWithin.nd rfl (Or.inl rfl)) (pgs_cons (pg_name (i := 3) scWithin.nd rfl (Or.inl rfl)) pgs_nil)))) (fun _ _ _ _ _ => pts_nil) (fun _ _ _ _ _ => (pe_cmpR (opIn (T.at_ "__contains__" (by decide +kernel)) (T.fn "__contains__" (by decide +kernel)) GCont (hr.mono (by decide))) (pe_tup (pa_cons (pv 2) (pa_cons (pv 3) pa_nil))) (pv 1) (by with_unfolding_all rfl)))) pa_nil))))), ?_⟩)) (F.bindsN fun _ _ _ _ _ _ us hl => match us, hl with | [_, _], _ => rfl) F.kp
  · obtain ⟨a, b, ms, os, rfl, _⟩ := h
    rfl
  · obtain ⟨a, b, ms, os, rfl, ha, hb, c, hl, q⟩ := h
    have big := big_line
    have c6 := c.hi
    obtain ⟨dx, t, ea, hs⟩ := id ha
    obtain ⟨dy, u, eb, hu⟩ := id hb
    refine ⟨_, rfl, _, rfl, a, b, ms, os, rfl, ha, hb, hl, ?_⟩
    refine ⟨_, rfl, a, _, dx, _, _, rfl, ea, T.cls, T.nof, rfl, t, mv ms, rfl, hs, fun D hD => lc_it (walk_enumT (K := K) (a := t) (xs := mv ms)) (fun i H' => H' D = some (.lst (((List.range i).map fun k => gd os k == gd os (gd ms k)).map V.bl)) ∧ Same H H') ⟨upd_same, fun b o e => by rw [upd_ne (ne_of_none e hD)]; exact e⟩ (fun i H' _ z => sqT_same z.2 hs) ?_ ?_⟩
    · rintro i x H1 H2 hi ⟨h1, s1⟩ ⟨T0, n0, y0, rfl, hT, rfl, e1, e2⟩
      cases (show V.int (i : Nat) = n0 from Option.some.inj e1)
      rw [mv_len] at hi
      cases (show V.int (gd ms i : Nat) = y0 from Option.some.inj ((mv_get hi).symm.trans e2))
      have s2 : Same H (upd H1 T0 (.tup [V.int (i : Nat), V.int (gd ms i : Nat)])) := s1.trans fun b o e => by rw [upd_ne (ne_of_none e hT)]; exact e
      have le := c.le i hi
      refine ⟨T0, _, rfl, SqT.of upd_same, rfl, _, _, rfl, _, _, rfl, rfl, rfl, _, rfl, _, rfl, by show 2 ≤ sizeLine; omega, fun p hp => ?_⟩
      have s3 := s2.trans (same_updN (o := .tup [V.int (i : Nat), V.int (gd ms i : Nat)]) hp)
      refine ⟨_, rfl, b, dy, _, rfl, s3 _ _ eb, b, p, os, i, gd ms i, rfl, hb.same s3, by omega, SqT.of upd_same, by omega, by omega, fun H4 s4 => ⟨_, rfl, ?_⟩⟩
      have hD2 : H4 D = some (.lst (((List.range i).map fun k => gd os k == gd os (gd ms k)).map V.bl)) := s4 _ _ (by
        have n1 : D ≠ p := fun z => by
          rw [← z, upd_ne (fun z2 : D = T0 => by rw [z2, hT] at h1; cases h1), h1] at hp
          cases hp
        rw [upd_ne n1, upd_ne (fun z2 : D = T0 => by rw [z2, hT] at h1; cases h1)]
        exact h1)
      refine ⟨_, hD2, by rw [List.length_map, List.length_map, List.length_range]; omega, ?_, fun c o e => ?_⟩
      · rw [upd_same, List.range_succ, List.map_append, List.map_append]
        rfl
      · rw [upd_ne (ne_of_none e hD)]
        exact s4 _ _ (s3 _ _ e)
    · rintro H1 ⟨h1, s1⟩
      rw [mv_len] at h1
      refine ⟨D, _, rfl, SqL.of h1, ?_⟩
      have e : ((List.range ms.length).map fun k => gd os k == gd os (gd ms k)).all id = withinB ms os := by
        unfold withinB
        rw [List.all_map]
        rfl
      rw [e]
      exact q _ s1
/-! ### | -/
def spOr (K : PySem.W.Frag) : Sp := fun vs H Q _ => ∃ (a b : Addr) (ms os : List Nat), vs = [.ref a, .ref b] ∧ StAt K H a ms ∧ StAt K H b os ∧ Canon ms ∧ Canon os ∧ ms.length = os.length ∧ ∀ (x : Addr) (H' : Hp), Same H H' → H x = none → StAt K H' x (orM ms os) → Q (.ref x) H'
theorem ok_Or {f : Addr} {fd : FuncData} (T : Txt K mg) (F : FnP K "__or__" "Standing.__or__" sOr f fd) (GChk : Pr P w K mg base 3 (ga K "check_wires") ["one", "other"] (spChk K)) (GMarks : Pr P w K mg base 1 (He5.wf K (cS K) "property" "marks") ["self"] (spMarks K))
    (GMrg : Pr P w K mg base 1 (ga K "merged") ["marks", "one", "other"] (spMrg K)) (GInit : Pr P w K mg base 3 (ma K (cS K) "__init__") ["self", "marks"] (spInit K)) : Pr P w K mg base 5 f ["self", "other"] (spOr K) := by
  refine .of (F.ok scOr (fun vs H Q E h => ?_) (fun cdv A outer s H vs Q E hr h => ⟨_, PSs.nox (pss_cons (ps_expr (pcl GChk (hr.mono (by decide)) rfl (T.gl "check_wires" (by decide +kernel)) (pa_cons (pv 0) (pa_cons (pv 1) pa_nil)))) (pss_cons (ps_set (i := 2) scOr.nd rfl (Or.inl rfl) (fldK K (pv 0))) (pss_cons (ps_for PassesOwn.never rfl (pi_enumT rfl (T.free _ (by decide +kernel)) (pa_cons (ppr (pv 1) T.cls T.pMarks GMarks (hr.mono (by decide))) pa_nil)) (tupG K 2 (pgs_cons (pg_name (i := 3) scOr.nd rfl (Or.inl rfl)) (pgs_cons (pg_name (i := 4) scOr.nd rfl (Or.inl rfl)) pgs_nil))) (pss_one (ps_set (i := 2) scOr.nd rfl (Or.inl rfl) (pcl GMrg (hr.mono (by decide)) rfl (T.gl "merged" (by decide +kernel)) (pa_cons (pv 2) (pa_cons (pv 3) (pa_cons (pv 4) pa_nil))))))) (pss_one (ps_ret (pmk T.mkr GInit (hr.mono (by decide)) rfl T.gS (pa_cons (pv 2) pa_nil))))))), ?_⟩)) (F.bindsN fun _ _ _ _ _ _ us hl => match us, hl with | [_, _], _ => rfl) F.kp
  · obtain ⟨a, b, ms, os, rfl, _⟩ := h
    rfl
  · obtain ⟨a, b, ms, os, rfl, ha, hb, c, d, hl, q⟩ := h
    have big := big_line
    have c6 := c.hi
    obtain ⟨dx, t, ea, hs⟩ := id ha
    obtain ⟨dy, u, eb, hu⟩ := id hb
    refine ⟨_, rfl, _, rfl, a, b, ms, os, rfl, ha, hb, hl, ?_⟩
    dsimp only
    refine seq_reads (set_reads ⟨_, rfl, a, _, dx, _, _, rfl, ea, T.cls, T.nof, rfl, ?_⟩)
    dsimp only
    refine ⟨_, rfl, b, dy, _, rfl, eb, b, dy, u, rfl, eb, u, mv os, rfl, hu, ?_⟩
    refine for_it (walk_enumT (K := K) (a := u) (xs := mv os)) (fun i σ H' => ∃ (t' : Addr) (s1 s2 : Option V), σ = [some (.ref a), some (.ref b), some (.ref t'), s1, s2] ∧ SqT K H' t' (mv (orTo ms os i)) ∧ Same H H') ⟨t, none, none, rfl, hs, Same.refl _⟩ (fun i σ H' _ ⟨_, _, _, _, _, sm⟩ => sqT_same sm hu) ?_ ?_
    · rintro i y σ H2 H3 hi ⟨t', z1, z2, rfl, ht, sm⟩ ⟨T0, n0, y0, rfl, hT, rfl, e1, e2⟩
      cases (show V.int (i : Nat) = n0 from Option.some.inj e1)
      rw [mv_len] at hi
      cases (show V.int (gd os i : Nat) = y0 from Option.some.inj ((mv_get hi).symm.trans e2))
      have s0 := same_updN (o := .tup [V.int (i : Nat), V.int (gd os i : Nat)]) hT
      obtain ⟨k1, k2, _⟩ := orTo_ok c d hl i (Nat.le_of_lt hi)
      have dl := d.lt hi
      refine ⟨T0, _, rfl, SqT.of upd_same, rfl, _, _, rfl, _, _, rfl, rfl, ?_⟩
      refine ⟨_, rfl, _, rfl, _, rfl, t', orTo ms os i, i, gd os i, rfl, sqT_same s0 ht, k1.hi, by omega, by omega, fun t2 H4 s4 h4 => ?_⟩
      refine ⟨t2, _, _, rfl, SqT.of (by rw [h4, orTo_succ]), sm.trans (s0.trans s4)⟩
    · rintro σ H2 ⟨t', z1, z2, rfl, ht, sm⟩
      rw [mv_len] at ht
      exact ⟨_, rfl, mk_fin (t := t') (ms := orM ms os) ht (or_canon c d hl) fun x H' s1 nx st => q x H' (sm.trans s1) (sm.free nx) st⟩
end
end K03

set_option Elab.async false
set_option linter.all false
set_option maxRecDepth 100000
set_option maxHeartbeats 4000000
namespace K03
open PySem PySem.Spec PyProof.Rows L2 Lw
/-! ### pairs as data -/
def pdP (p : Nat × Nat) : PyData := .tuple [.int (p.1 : Nat), .int (p.2 : Nat)]
theorem eqv_pd (p r : Nat × Nat) : PyData.eqv (pdP p) (pdP r) = decide (p = r) := by
  obtain ⟨a, b⟩ := p
  obtain ⟨c, d⟩ := r
  unfold pdP
  rw [Bool.eq_iff_iff]
  simp [PyData.eqv, PyData.eqvAll]
  omega
theorem lay_pd : ∀ ps : List (Nat × Nat), PyData.canLayAll0 (ps.map pdP) = true
  | [] => rfl
  | p :: ps => by
    rw [List.map_cons, PyData.canLayAll0, lay_pd ps]
    rfl
theorem depth_pd : ∀ ps : List (Nat × Nat), PyData.depthAll (ps.map pdP) ≤ 1
  | [] => by simp [PyData.depthAll]
  | p :: ps => by
    rw [List.map_cons, PyData.depthAll]
    have h1 := depth_pd ps
    have h2 : (pdP p).depth = 1 := by simp [pdP, PyData.depth, PyData.depthAll]
    omega
theorem shaped_pds (ps : List (Nat × Nat)) : SeqAt.shaped (.list (ps.map pdP)) = true := by
  show (PyData.canLay0 (.list (ps.map pdP)) && decide (PyData.depth (.list (ps.map pdP)) ≤ 64)) = true
  rw [Bool.and_eq_true]
  refine ⟨by simp only [PyData.canLay0]; exact lay_pd ps, decide_eq_true ?_⟩
  simp only [PyData.depth]
  have h := depth_pd ps
  omega
theorem shaped_pd (p : Nat × Nat) : SeqAt.shaped (pdP p) = true := by
  show (PyData.canLay0 (pdP p) && decide (PyData.depth (pdP p) ≤ 64)) = true
  simp [pdP, PyData.canLay0, PyData.canLayAll0, PyData.depth, PyData.depthAll]
theorem pairs_dp {K : PySem.W.Frag} {H H' : Hp} : ∀ {Ts : List Addr} {ms os : List Nat}, PairsAt H H' Ts ((mv ms).zip (mv os)) → DpAll K H' (Ts.map V.ref) ((ms.zip os).map pdP)
  | _, [], os, h => by cases h; exact .nil
  | _, _ :: _, [], h => by cases h; exact .nil
  | _, m :: ms, o :: os, h => by
    cases h with
    | cons r t => exact .cons (.tup (SqT.of r.2) (.cons (.int m) (.cons (.int o) .nil))) (pairs_dp t)
section
variable {P : Program} {w : World} {K : PySem.W.Frag} {mg : Str → Option Value} {base : Heap}
def spAnd (K : PySem.W.Frag) : Sp := fun vs H Q _ => ∃ (a b : Addr) (ms os : List Nat), vs = [.ref a, .ref b] ∧ StAt K H a ms ∧ StAt K H b os ∧ Canon ms ∧ Canon os ∧ ms.length = os.length ∧ ∀ (x : Addr) (H' : Hp), Same H H' → H x = none → StAt K H' x (andM ms os) → Q (.ref x) H'
theorem ok_And {f : Addr} {fd : FuncData} (T : Txt K mg) (F : FnP K "__and__" "Standing.__and__" sAnd f fd) (GChk : Pr P w K mg base 3 (ga K "check_wires") ["one", "other"] (spChk K)) (GMarks : Pr P w K mg base 1 (He5.wf K (cS K) "property" "marks") ["self"] (spMarks K))
    (GInit : Pr P w K mg base 3 (ma K (cS K) "__init__") ["self", "marks"] (spInit K)) : Pr P w K mg base 5 f ["self", "other"] (spAnd K) := by
  refine .of (F.ok scAnd (fun vs H Q E h => ?_) (fun cdv A outer s H vs Q E hr h => ⟨_, PSs.nox (pss_cons (ps_expr (pcl GChk (hr.mono (by decide)) rfl (T.gl "check_wires" (by decide +kernel)) (pa_cons (pv 0) (pa_cons (pv 1) pa_nil)))) (pss_cons (ps_set (i := 2) scAnd.nd rfl (Or.inr rfl) (pe_listZip rfl rfl (T.free _ (by decide +kernel)) rfl (T.free _ (by decide +kernel)) (pa_cons (fldK K (pv 0)) (pa_cons (ppr (pv 1) T.cls T.pMarks GMarks (hr.mono (by decide))) pa_nil)))) (pss_one (ps_ret (pmk T.mkr GInit (hr.mono (by decide)) rfl T.gS (pa_cons (pe_callTy call_tuple_of rfl (T.free _ (by decide +kernel)) (by decide +kernel) (pa_cons (pe_lc (own := [("pair", 3)]) (g := gName 3) (tt := tYes) rfl scAnd.nd (pi_list (pv 2)) (blkOk_by (N := nAnd) (sc := defScope sAnd) (by decide +kernel)) (fun _ _ _ _ _ => (pg_name (i := 3) scAnd.nd rfl (Or.inl rfl))) (fun _ _ _ _ _ => pts_nil) (fun _ _ _ _ _ => (bmK K PySem.F.plainAttrs_list PySem.F.slot_list_index PySem.F.type_list_index (idxK K (by have := hr.un; show (A.deeper _).units + 65 < cLine; omega)) (pv 2) (pa_cons (pv 3) pa_nil)))) pa_nil)) pa_nil)))))), ?_⟩)) (F.bindsN fun _ _ _ _ _ _ us hl => match us, hl with | [_, _], _ => rfl) F.kp
  · obtain ⟨a, b, ms, os, rfl, _⟩ := h
    rfl
  · obtain ⟨a, b, ms, os, rfl, ha, hb, c, d, hl, q⟩ := h
    have big := big_line
    have c6 := c.hi
    obtain ⟨dx, t, ea, hs⟩ := id ha
    obtain ⟨dy, u, eb, hu⟩ := id hb
    refine ⟨_, rfl, _, rfl, a, b, ms, os, rfl, ha, hb, hl, ?_⟩
    dsimp only
    refine seq_reads (set_reads ⟨_, rfl, a, _, dx, _, _, rfl, ea, T.cls, T.nof, rfl, _, rfl, b, dy, _, rfl, eb, b, dy, u, rfl, eb, t, u, mv ms, mv os, rfl, hs, hu, by rw [mv_len, mv_len]; exact hl, by rw [mv_len]; omega, fun l Ts H2 s2 nl hl2 hP => ?_⟩)
    dsimp only
    have lenT : Ts.length = ms.length := by
      have e := paired_len hP
      rw [List.length_zip, mv_len, mv_len] at e
      omega
    have lenZ : (ms.zip os).length = ms.length := by rw [List.length_zip]; omega
    refine ⟨_, rfl, l, rfl, ⟨_, SqL.of hl2⟩, fun D hD => lc_list (K := K) (a := l) (xs := Ts.map V.ref) (fun i H' => H' D = some (.lst ((mv (andM ms os)).take i)) ∧ Same H2 H') ⟨upd_same, same_updN hD⟩ (fun i H' _ z => SqL.of (z.2 _ _ hl2)) ?_ ?_⟩
    · rintro i x H3 hx ⟨h1, s1⟩
      have hi : i < ms.length := by
        have e := (List.getElem?_eq_some_iff.mp hx).1
        rw [List.length_map] at e
        omega
      rw [List.getElem?_map] at hx
      obtain ⟨Ti, hTi, rfl⟩ := Option.map_eq_some_iff.mp hx
      have hP3 : PairsAt H H3 Ts ((mv ms).zip (mv os)) := hP.same fun T x _ e => s1 _ _ e
      obtain ⟨pr, hpr, np, ep⟩ := Lw.paired_get hP3 hTi
      have hz : ((mv ms).zip (mv os))[i]? = some (V.int (gd ms i : Nat), V.int (gd os i : Nat)) := by
        rw [List.getElem?_zip_eq_some]
        exact ⟨mv_get hi, mv_get (hl ▸ hi)⟩
      cases Option.some.inj (hpr.symm.trans hz)
      obtain ⟨j1, j2, j3⟩ := idx_spec hl hi
      have jl : (ms.zip os).idxOf (gd ms i, gd os i) < ms.length := by omega
      refine ⟨rfl, _, rfl, .inl ⟨rfl, _, SqL.of (s1 _ _ hl2)⟩, _, rfl, l, .ref Ti, pdP (gd ms i, gd os i), (ms.zip os).map pdP, (ms.zip os).idxOf (gd ms i, gd os i), pdP (gd ms i, gd os i), rfl, rfl, .lst (SqL.of (s1 _ _ hl2)) (pairs_dp hP3), .tup (SqT.of ep) (.cons (.int _) (.cons (.int _) .nil)), shaped_pds _, shaped_pd _, ?_, ?_, ?_, ?_⟩
      · rw [List.getElem?_map, zip_at hl jl, j2, j3]
        rfl
      · rw [eqv_pd]
        exact decide_eq_true rfl
      · intro m z' hm hz'
        rw [List.getElem?_map] at hz'
        obtain ⟨pz, hpz, rfl⟩ := Option.map_eq_some_iff.mp hz'
        rw [eqv_pd]
        refine decide_eq_false fun e => ?_
        have le := idxOf_le (x := (gd ms i, gd os i)) (e ▸ hpz)
        omega
      · have lenA : (mv (andM ms os)).length = ms.length := by rw [mv_len, and_len hl]
        refine ⟨_, h1, by rw [List.length_take, lenA]; omega, ?_, fun c o e => ?_⟩
        · rw [upd_same, List.take_succ, mv_get (by rw [and_len hl]; exact hi), gd_and hl hi]
          rfl
        · rw [upd_ne (ne_of_none e hD)]
          exact s1 _ _ e
    · rintro H3 ⟨h1, s1⟩
      have lenA : (mv (andM ms os)).length = (Ts.map V.ref).length := by rw [mv_len, and_len hl, List.length_map, lenT]
      rw [← lenA, List.take_length] at h1
      refine ⟨D, _, rfl, .inl ⟨SqL.of h1, fun p hp => mk_fin (t := p) (ms := andM ms os) (SqT.of upd_same) (and_canon c hl) fun x H' s4 nx st => ?_⟩⟩
      have s5 : Same H (upd H3 p (.tup (mv (andM ms os)))) := (s2.trans s1).trans (same_updN hp)
      exact q x H' (s5.trans s4) (s5.free nx) st
end
end K03

set_option Elab.async false
set_option linter.all false
set_option maxRecDepth 100000
set_option maxHeartbeats 4000000
namespace K03
open PySem PySem.Spec PyProof.Rows L2 Lw
abbrev sPot : Stmt := top 16
abbrev nPot : List Str := ["_law_script", "_law_place", "_law_cell", "_law_own", "_law_small"]
theorem scPot : FnScope nPot ["_law_script", "_law_place"] (defScope sPot) := ⟨rfl, rfl, rfl, by decide +kernel, rfl, by decide +kernel, by decide +kernel⟩
abbrev sTake : Stmt := top 17
abbrev nTake : List Str := ["_law_pot_here", "_law_upto", "_law_digit", "_law_prime", "_law_mixed"]
theorem scTake : FnScope nTake ["_law_pot_here", "_law_upto"] (defScope sTake) := ⟨rfl, rfl, rfl, by decide +kernel, rfl, by decide +kernel, by decide +kernel⟩
abbrev sOf : Stmt := top 18
abbrev nOf : List Str := ["_law_pot_here", "_law_some"]
theorem scOf : FnScope nOf ["_law_pot_here", "_law_some"] (defScope sOf) := ⟨rfl, rfl, rfl, by decide +kernel, rfl, by decide +kernel, by decide +kernel⟩
abbrev sCells : Stmt := top 19
abbrev nCells : List Str := ["_law_script", "_law_limit"]
theorem scCells : FnScope nCells ["_law_script", "_law_limit"] (defScope sCells) := ⟨rfl, rfl, rfl, by decide +kernel, rfl, by decide +kernel, by decide +kernel⟩
/-- all but the object at q are as they were -/
def Keep (q : Addr) (H H' : Hp) : Prop := ∀ b o, b ≠ q → H b = some o → H' b = some o
theorem Keep.refl (q : Addr) (H : Hp) : Keep q H H := fun _ _ _ e => e
theorem Keep.trans {q : Addr} {H H' H'' : Hp} (a : Keep q H H') (b : Keep q H' H'') : Keep q H H'' := fun c o n e => b c o n (a c o n e)
theorem Keep.of {q : Addr} {H H' : Hp} (s : Same H H') : Keep q H H' := fun c o _ e => s c o e
/-- draws of one cell, at most n of them mixed ones -/
def PotAt (H : Hp) (q : Addr) (n : Nat) : Prop := ∃ own m k : Int, H q = some (.lst [.int own, .int m, .int k]) ∧ 0 ≤ own ∧ own < 10 ^ 300 ∧ 0 ≤ m ∧ m < 2305843009213693921 ∧ 0 ≤ k ∧ k ≤ n
theorem PotAt.same {H H' : Hp} {q : Addr} {n : Nat} (h : PotAt H q n) (s : Same H H') : PotAt H' q n := by
  obtain ⟨own, m, k, e, r⟩ := h
  exact ⟨own, m, k, s _ _ e, r⟩
theorem PotAt.mono {H : Hp} {q : Addr} {n n' : Nat} (h : PotAt H q n) (l : n ≤ n') : PotAt H q n' := by
  obtain ⟨own, m, k, e, a, b, c, d, x, y⟩ := h
  exact ⟨own, m, k, e, a, b, c, d, x, by omega⟩
section
variable {P : Program} {w : World} {K : PySem.W.Frag} {mg : Str → Option Value} {base : Heap}
def spPot (K : PySem.W.Frag) : Sp := fun vs H Q _ => ∃ (a : Addr) (ns : List Int) (p : Nat), vs = [.ref a, .int (p : Nat)] ∧ SqL K H a (ns.map V.int) ∧ p < 64 ∧ ∀ (q : Addr) (H' : Hp), Same H H' → H q = none → PotAt H' q 0 → Q (.ref q) H'
theorem ok_Pot {f : Addr} {fd : FuncData} (T : Txt K mg) (F : FnP K "_law_pot" "_law_pot" sPot f fd) : Pr P w K mg base 1 f ["_law_script", "_law_place"] (spPot K) := by
  refine .of (F.ok scPot (fun vs H Q E h => ?_) (fun cdv A outer s H vs Q E hr h => ⟨_, PSs.nox (pss_cons (ps_set (i := 2) scPot.nd rfl (Or.inl rfl) (pe_ifExp (pt_cmpR op_lt (pv 1) (pe_callB (lenK K) rfl (T.free _ (by decide +kernel)) (by decide +kernel) (pa_cons (pv 0) pa_nil)) (nomark _)) (pe_ix (ixL K) (pv 0) (pv 1) (fun _ _ => rfl)) (pe_op op_add (pe_op op_mul pe_int (pv 1)) pe_int))) (pss_cons (ps_set (i := 3) scPot.nd rfl (Or.inl rfl) (pe_op op_mul (pe_op op_mod (pe_callTy call_int1 rfl (T.free _ (by decide +kernel)) (by decide +kernel) (pa_cons (pe_callB call_abs rfl (T.free _ (by decide +kernel)) (by decide +kernel) (pa_cons (pv 2) pa_nil)) pa_nil)) (pe_op op_powB (pe_op op_pow pe_int pe_int) pe_int)) (pe_callTy call_int1 rfl (T.free _ (by decide +kernel)) (by decide +kernel) (pa_cons (pe_cmpR op_ge (pe_callB call_abs rfl (T.free _ (by decide +kernel)) (by decide +kernel) (pa_cons (pv 2) pa_nil)) (pe_op op_pow pe_int pe_int) (nomark _)) pa_nil)))) (pss_cons (ps_set (i := 4) scPot.nd rfl (Or.inl rfl) (pe_op op_mod (pe_callTy call_int1 rfl (T.free _ (by decide +kernel)) (by decide +kernel) (pa_cons (pv 2) pa_nil)) pe_int)) (pss_one (ps_ret (pe_lst (pa_cons (pv 3) (pa_cons (pe_op op_mod (pe_callTy call_int1 rfl (T.free _ (by decide +kernel)) (by decide +kernel) (pa_cons (pe_op op_add (pe_op op_add (pe_op op_mul (pv 4) pe_int) (pe_op op_mul (pe_op op_mul pe_int (pv 1)) (pv 1))) pe_int) pa_nil)) pe_int) (pa_cons pe_int pa_nil))))))))), ?_⟩)) (F.bindsN fun _ _ _ _ _ _ us hl => match us, hl with | [_, _], _ => rfl) F.kp
  · obtain ⟨a, ns, p, rfl, _⟩ := h
    rfl
  · obtain ⟨a, ns, p, rfl, hs, hp, q⟩ := h
    have big := big_line
    refine seq_reads (set_reads (if_int (fun cell => ?_) fun hz => ⟨_, rfl, _, rfl, a, _, rfl, .inl hs, _, _, rfl, rfl, _, rfl, ?_⟩))
    · dsimp only
      have b1 : (0 : Int) ≤ (if cell < 0 then -cell else cell) % (10 ^ 60) ^ 5 := Int.emod_nonneg _ (by decide +kernel)
      have b2 : (if cell < 0 then -cell else cell) % (10 ^ 60) ^ 5 < (10 ^ 60) ^ 5 := Int.emod_lt_of_pos _ (by decide +kernel)
      have b3 : (0 : Int) ≤ cell % 2305843009213693951 := Int.emod_nonneg _ (by decide)
      have b4 : cell % 2305843009213693951 < 2305843009213693951 := Int.emod_lt_of_pos _ (by decide)
      refine seq_reads (set_reads ⟨_, rfl, _, rfl, .inl ⟨_, rfl, 10, 60, rfl, rfl, ⟨by decide, by decide, by decide⟩, _, 5, rfl, rfl, ⟨by decide, by decide +kernel⟩, _, _, rfl, rfl, (by show (0 : Int) < (10 ^ 60) ^ 5; decide +kernel), _, rfl, _, rfl, 10, 18, rfl, rfl, ⟨by decide, by decide, by decide⟩, _, _, rfl, rfl, .inr ⟨_, rfl, ?_⟩⟩⟩)
      have f1 : ∀ c : Bool, -(2 ^ 64) < (if c = true then (1 : Int) else 0) ∧ (if c = true then (1 : Int) else 0) < 2 ^ 64 := by decide
      have f2 : ∀ (x : Int) (c : Bool), 0 ≤ x → x < (10 ^ 60) ^ 5 → 0 ≤ x * (if c = true then (1 : Int) else 0) ∧ x * (if c = true then (1 : Int) else 0) < 10 ^ 300 := fun x c h0 h1 => by
        have e : ((10 : Int) ^ 60) ^ 5 = 10 ^ 300 := by decide +kernel
        rw [e] at h1
        cases c with
        | true => rw [if_pos rfl, Int.mul_one]; exact ⟨h0, h1⟩
        | false => rw [if_neg Bool.false_ne_true, Int.mul_zero]; exact ⟨Int.le_refl 0, by decide +kernel⟩
      refine ⟨_, _, rfl, rfl, .inr (f1 _), ?_⟩
      obtain ⟨o1, o2⟩ := f2 _ (decide (10 ^ Int.toNat 18 ≤ if cell < 0 then -cell else cell)) b1 b2
      dsimp only
      refine seq_reads (set_reads ⟨_, rfl, .inl ⟨_, rfl, _, _, rfl, rfl, (by show (0 : Int) < 2305843009213693951; decide), ?_⟩⟩)
      dsimp only
      refine ⟨_, rfl, _, rfl, _, _, rfl, rfl, .inl ⟨by omega, by omega⟩, _, rfl, _, _, rfl, rfl, .inl ⟨by decide, by decide⟩, _, rfl, _, _, rfl, rfl, .inl ⟨by omega, by omega⟩, _, _, rfl, rfl, _, _, rfl, rfl, .inl ⟨_, rfl, _, _, rfl, rfl, (by show (0 : Int) < 2305843009213693921; decide), by show 3 ≤ sizeLine; omega, fun l nl => ?_⟩⟩
      exact q l _ (same_updN nl) nl ⟨_, _, 0, upd_same, o1, o2, Int.emod_nonneg _ (by decide), Int.emod_lt_of_pos _ (by decide), Int.le_refl 0, Int.le_refl 0⟩
    · by_cases h : p < ns.length
      · refine ifT (decide_eq_true (by rw [List.length_map]; omega)) ⟨_, rfl, _, rfl, a, _, _, _, rfl, rfl, hs, atI_nat (List.getElem?_eq_getElem (by rw [List.length_map]; exact h)), ?_⟩
        rw [List.getElem_map]
        exact hz _
      · exact ifF (decide_eq_false (by rw [List.length_map]; omega)) ⟨_, rfl, _, _, rfl, rfl, .inl ⟨by decide, by decide⟩, _, _, rfl, rfl, hz _⟩
theorem prime_at (r : Int) (h0 : 0 ≤ r) (h1 : r < 5) : ∃ v : Int, atI [V.int 2147483647, V.int 2147483629, V.int 2147483587, V.int 2147483579, V.int 2147483563] r = some (.int v) ∧ 0 < v ∧ v < 2147483648 := by
  have h : r = 0 ∨ r = 1 ∨ r = 2 ∨ r = 3 ∨ r = 4 := by omega
  rcases h with rfl | rfl | rfl | rfl | rfl
  · exact ⟨_, atI_nat (j := 0) rfl, by decide, by decide⟩
  · exact ⟨_, atI_nat (j := 1) rfl, by decide, by decide⟩
  · exact ⟨_, atI_nat (j := 2) rfl, by decide, by decide⟩
  · exact ⟨_, atI_nat (j := 3) rfl, by decide, by decide⟩
  · exact ⟨_, atI_nat (j := 4) rfl, by decide, by decide⟩
def spTake (K : PySem.W.Frag) : Sp := fun vs H Q _ => ∃ (q : Addr) (u : Int) (n : Nat), vs = [.ref q, .int u] ∧ PotAt H q n ∧ n < 100000 ∧ 0 < u ∧ u < 1000000 ∧ ∀ (d : Int) (H' : Hp), Keep q H H' → PotAt H' q (n + 1) → 0 ≤ d → d < u → Q (.int d) H'
theorem ok_Take {f : Addr} {fd : FuncData} (T : Txt K mg) (F : FnP K "_law_take" "_law_take" sTake f fd) : Pr P w K mg base 1 f ["_law_pot_here", "_law_upto"] (spTake K) := by
  refine .of (F.ok scTake (fun vs H Q E h => ?_) (fun cdv A outer s H vs Q E hr h => ⟨_, PSs.nox (pss_cons (ps_if (pt_cmpR op_gt (pe_ix (ixL K) (pv 0) pe_int (fun _ _ => rfl)) pe_int (nomark _)) (pss_cons (ps_set (i := 2) scTake.nd rfl (Or.inl rfl) (pe_op op_mod (pe_callTy call_int1 rfl (T.free _ (by decide +kernel)) (by decide +kernel) (pa_cons (pe_ix (ixL K) (pv 0) pe_int (fun _ _ => rfl)) pa_nil)) (pv 1))) (pss_cons (ps_asg (pe_op op_fdiv (pe_ix (ixL K) (pv 0) pe_int (fun _ _ => rfl)) (pv 1)) (pg_sub (pv 0) pe_int set_list)) (pss_one (ps_ret (pv 2))))) pss_nil) (pss_cons (ps_asg (pe_op op_add (pe_ix (ixL K) (pv 0) pe_int (fun _ _ => rfl)) pe_int) (pg_sub (pv 0) pe_int set_list)) (pss_cons (ps_set (i := 3) scTake.nd rfl (Or.inl rfl) (pe_ix (ixL K) (pe_lst (pa_cons pe_int (pa_cons pe_int (pa_cons pe_int (pa_cons pe_int (pa_cons pe_int pa_nil)))))) (pe_op op_mod (pe_callTy call_int1 rfl (T.free _ (by decide +kernel)) (by decide +kernel) (pa_cons (pe_ix (ixL K) (pv 0) pe_int (fun _ _ => rfl)) pa_nil)) pe_int) (fun _ _ => rfl))) (pss_cons (ps_set (i := 4) scTake.nd rfl (Or.inl rfl) (pe_op op_mod (pe_callTy call_int1 rfl (T.free _ (by decide +kernel)) (by decide +kernel) (pa_cons (pe_op op_pow (pe_callTy call_int1 rfl (T.free _ (by decide +kernel)) (by decide +kernel) (pa_cons (pe_op op_add (pe_op op_add (pe_ix (ixL K) (pv 0) pe_int (fun _ _ => rfl)) (pe_op op_mul (pe_op op_mul pe_int (pe_ix (ixL K) (pv 0) pe_int (fun _ _ => rfl))) (pe_ix (ixL K) (pv 0) pe_int (fun _ _ => rfl)))) pe_int) pa_nil)) pe_int) pa_nil)) (pv 3))) (pss_cons (ps_set (i := 4) scTake.nd rfl (Or.inl rfl) (pe_op op_mod (pe_callTy call_int1 rfl (T.free _ (by decide +kernel)) (by decide +kernel) (pa_cons (pe_op op_mul (pv 4) (pe_op op_add (pe_op op_mod (pe_callTy call_int1 rfl (T.free _ (by decide +kernel)) (by decide +kernel) (pa_cons (pv 4) pa_nil)) pe_int) (pe_op op_mul pe_int (pe_ix (ixL K) (pv 0) pe_int (fun _ _ => rfl))))) pa_nil)) pe_int)) (pss_one (ps_ret (pe_op op_mod (pe_callTy call_int1 rfl (T.free _ (by decide +kernel)) (by decide +kernel) (pa_cons (pe_op op_fdiv (pv 4) pe_int) pa_nil)) (pv 1))))))))), ?_⟩)) (F.bindsN fun _ _ _ _ _ _ us hl => match us, hl with | [_, _], _ => rfl) F.kp
  · obtain ⟨q, u, n, rfl, _⟩ := h
    rfl
  · obtain ⟨q, u, n, rfl, ⟨own, m, k, hq, o1, o2, m1, m2, k1, k2⟩, hn, u0, u1, kk⟩ := h
    have big := big_line
    have i0 : ∀ x y z : V, atI [x, y, z] (0 : Int) = some x := fun x y z => atI_nat (j := 0) rfl
    have i1 : ∀ x y z : V, atI [x, y, z] (1 : Int) = some y := fun x y z => atI_nat (j := 1) rfl
    have i2 : ∀ x y z : V, atI [x, y, z] (2 : Int) = some z := fun x y z => atI_nat (j := 2) rfl
    refine ⟨_, rfl, q, _, _, _, rfl, rfl, SqL.of hq, i0 _ _ _, _, _, rfl, rfl, _, rfl, ?_⟩
    by_cases pos : own > 0
    · refine ifT (decide_eq_true pos) ?_
      dsimp only
      refine seq_reads (set_reads ⟨_, rfl, q, _, _, _, rfl, rfl, SqL.of hq, i0 _ _ _, .inl ⟨_, rfl, _, rfl, _, _, rfl, rfl, u0, ?_⟩⟩)
      dsimp only
      refine seq_reads ⟨_, rfl, q, _, _, _, rfl, rfl, SqL.of hq, i0 _ _ _, _, rfl, _, _, rfl, rfl, ⟨u0, by omega⟩, _, rfl, q, _, _, 0, rfl, rfl, hq, rfl, ?_⟩
      refine ⟨_, rfl, kk _ _ (fun b o nb e => by rw [upd_ne nb]; exact e) ⟨own / u, m, k, upd_same, Int.ediv_nonneg o1 (Int.le_of_lt u0), ?_, m1, m2, k1, by omega⟩ (Int.emod_nonneg _ (by omega)) (Int.emod_lt_of_pos _ u0)⟩
      exact Int.lt_of_le_of_lt (Int.ediv_le_self _ o1) o2
    · refine ifF (decide_eq_false pos) ?_
      dsimp only
      refine seq_reads ⟨_, rfl, q, _, _, _, rfl, rfl, SqL.of hq, i2 _ _ _, _, _, rfl, rfl, _, rfl, q, _, _, 2, rfl, rfl, hq, rfl, ?_⟩
      dsimp only
      have hq1 : upd H q (.lst ([V.int own, V.int m, V.int k].set 2 (V.int (k + 1)))) q = some (.lst [V.int own, V.int m, V.int (k + 1)]) := upd_same
      refine seq_reads (set_reads ⟨by show 5 ≤ sizeLine; omega, fun l nl => ?_⟩)
      have nlq : q ≠ l := fun z => by rw [← z, hq1] at nl; cases nl
      have hq2 : upd (upd H q (.lst ([V.int own, V.int m, V.int k].set 2 (V.int (k + 1))))) l (.lst [V.int 2147483647, V.int 2147483629, V.int 2147483587, V.int 2147483579, V.int 2147483563]) q = some (.lst [V.int own, V.int m, V.int (k + 1)]) := by
        rw [upd_ne nlq]
        exact hq1
      have hl2 : upd (upd H q (.lst ([V.int own, V.int m, V.int k].set 2 (V.int (k + 1))))) l (.lst [V.int 2147483647, V.int 2147483629, V.int 2147483587, V.int 2147483579, V.int 2147483563]) l = some (.lst [V.int 2147483647, V.int 2147483629, V.int 2147483587, V.int 2147483579, V.int 2147483563]) := upd_same
      have hk : Keep q H (upd (upd H q (.lst ([V.int own, V.int m, V.int k].set 2 (V.int (k + 1))))) l (.lst [V.int 2147483647, V.int 2147483629, V.int 2147483587, V.int 2147483579, V.int 2147483563])) := fun b o nb e => by
        have e2 : upd H q (.lst ([V.int own, V.int m, V.int k].set 2 (V.int (k + 1)))) b = some o := by rw [upd_ne nb]; exact e
        rw [upd_ne (ne_of_none e2 nl), upd_ne nb]
        exact e
      generalize upd (upd H q (.lst ([V.int own, V.int m, V.int k].set 2 (V.int (k + 1))))) l (.lst [V.int 2147483647, V.int 2147483629, V.int 2147483587, V.int 2147483579, V.int 2147483563]) = G at hq2 hl2 hk
      obtain ⟨v, hv, v0, v1⟩ := prime_at ((k + 1) % 5) (Int.emod_nonneg _ (by decide)) (Int.emod_lt_of_pos _ (by decide))
      refine ⟨_, rfl, q, _, _, _, rfl, rfl, SqL.of hq2, i2 _ _ _, .inl ⟨_, rfl, _, _, rfl, rfl, (by show (0 : Int) < 5; decide), l, _, _, _, rfl, rfl, SqL.of hl2, hv, ?_⟩⟩
      dsimp only
      have g1 : (0 : Int) ≤ 99809 * (k + 1) * (k + 1) := Int.mul_nonneg (by omega) (by omega)
      have g2 : 99809 * (k + 1) * (k + 1) ≤ 99809 * 100000 * 100000 := Int.mul_le_mul (by omega) (by omega) (by omega) (by omega)
      refine seq_reads (set_reads ⟨_, rfl, q, _, _, _, rfl, rfl, SqL.of hq2, i1 _ _ _, _, rfl, q, _, _, _, rfl, rfl, SqL.of hq2, i2 _ _ _, _, _, rfl, rfl, .inl ⟨by decide, by decide⟩, _, rfl, q, _, _, _, rfl, rfl, SqL.of hq2, i2 _ _ _, _, _, rfl, rfl, .inl ⟨by omega, by omega⟩, _, _, rfl, rfl, _, _, rfl, rfl,
        .inl ⟨_, rfl, _, 3, rfl, rfl, ⟨by decide, by decide, by omega⟩, .inl ⟨_, rfl, _, rfl, _, _, rfl, rfl, (by show (0 : Int) < v; omega), ?_⟩⟩⟩)
      dsimp only
      have w0 := Int.emod_nonneg ((m + 99809 * (k + 1) * (k + 1) + 59) ^ (3 : Int).toNat) (b := v) (by omega)
      have w1 := Int.emod_lt_of_pos ((m + 99809 * (k + 1) * (k + 1) + 59) ^ (3 : Int).toNat) (b := v) (by omega)
      refine seq_reads (set_reads ⟨_, rfl, _, rfl, .inl ⟨_, rfl, _, _, rfl, rfl, (by show (0 : Int) < 10433; decide), _, rfl, q, _, _, _, rfl, rfl, SqL.of hq2, i2 _ _ _, _, _, rfl, rfl, .inl ⟨by decide, by decide⟩, _, _, rfl, rfl, _, _, rfl, rfl, .inl ⟨by omega, by omega⟩, .inl ⟨_, rfl, _, _, rfl, rfl, (by show (0 : Int) < 2305843009213693907; decide), ?_⟩⟩⟩)
      dsimp only
      refine ⟨_, rfl, _, _, rfl, rfl, ⟨by decide, by decide⟩, .inl ⟨_, rfl, _, rfl, _, _, rfl, rfl, u0, ?_⟩⟩
      exact kk _ _ hk ⟨own, m, k + 1, hq2, o1, o2, m1, m2, by omega, by omega⟩ (Int.emod_nonneg _ (by omega)) (Int.emod_lt_of_pos _ u0)
def spOf (K : PySem.W.Frag) : Sp := fun vs H Q _ => ∃ (q l : Addr) (xs : List V) (n : Nat), vs = [.ref q, .ref l] ∧ PotAt H q n ∧ n < 100000 ∧ H l = some (.lst xs) ∧ l ≠ q ∧ xs ≠ [] ∧ xs.length < 1000000 ∧ ∀ (x : V) (H' : Hp), Keep q H H' → PotAt H' q (n + 1) → x ∈ xs → Q x H'
theorem ok_Of {f : Addr} {fd : FuncData} (T : Txt K mg) (F : FnP K "_law_of" "_law_of" sOf f fd) (GTake : Pr P w K mg base 1 (ga K "_law_take") ["_law_pot_here", "_law_upto"] (spTake K)) : Pr P w K mg base 2 f ["_law_pot_here", "_law_some"] (spOf K) := by
  refine .of (F.ok scOf (fun vs H Q E h => ?_) (fun cdv A outer s H vs Q E hr h => ⟨_, PSs.nox (pss_one (ps_ret (pe_ix (ixL K) (pv 1) (pcl GTake (hr.mono (by decide)) rfl (T.gl "_law_take" (by decide +kernel)) (pa_cons (pv 0) (pa_cons (pe_callB (lenK K) rfl (T.free _ (by decide +kernel)) (by decide +kernel) (pa_cons (pv 1) pa_nil)) pa_nil))) (fun _ _ => rfl)))), ?_⟩)) (F.bindsN fun _ _ _ _ _ _ us hl => match us, hl with | [_, _], _ => rfl) F.kp
  · obtain ⟨q, l, xs, n, rfl, _⟩ := h
    rfl
  · obtain ⟨q, l, xs, n, rfl, hp, hn, hl, ne, hx, lx, kk⟩ := h
    have pos : 0 < xs.length := List.length_pos_iff.mpr hx
    refine ⟨_, rfl, _, rfl, _, rfl, l, xs, rfl, .inl (SqL.of hl), q, _, n, rfl, hp, hn, by omega, by omega, fun d H' k1 p1 d0 d1 => ?_⟩
    obtain ⟨i, rfl⟩ := Int.eq_ofNat_of_zero_le d0
    have hi : i < xs.length := by omega
    exact ⟨l, xs, _, _, rfl, rfl, SqL.of (k1 _ _ ne hl), atI_nat (List.getElem?_eq_getElem hi), kk _ _ k1 p1 (List.getElem_mem hi)⟩
def spCells (K : PySem.W.Frag) : Sp := fun vs H Q _ => ∃ (a : Addr) (ns : List Int) (m : Nat), vs = [.ref a, .int (m : Nat)] ∧ SqL K H a (ns.map V.int) ∧ 1 ≤ m ∧ m ≤ 63 ∧ ∀ (l : Addr) (c : Nat) (H' : Hp), Same H H' → c ≤ 63 → H' l = some (.lst (mv (List.range c))) → Q (.ref l) H'
theorem rg_mv (b : Int) (n : Nat) (h : b = n) : rgV 0 b = mv (List.range n) := by
  subst h
  unfold rgV mv
  rw [Int.sub_zero, Int.toNat_natCast]
  refine List.map_congr_left fun i _ => ?_
  rw [Int.zero_add]
theorem ok_Cells {f : Addr} {fd : FuncData} (T : Txt K mg) (F : FnP K "_law_cells" "_law_cells" sCells f fd) : Pr P w K mg base 1 f ["_law_script", "_law_limit"] (spCells K) := by
  refine .of (F.ok scCells (fun vs H Q E h => ?_) (fun cdv A outer s H vs Q E hr h => ⟨_, PSs.nox (pss_one (ps_ret (pe_listRg rfl rfl (T.free _ (by decide +kernel)) (prg_1 rfl (T.free _ (by decide +kernel)) (pe_callB (call_max2 rfl) rfl (T.free _ (by decide +kernel)) (by decide +kernel) (pa_cons pe_int (pa_cons (pe_callB (call_min2 rfl) rfl (T.free _ (by decide +kernel)) (by decide +kernel) (pa_cons (pv 1) (pa_cons (pe_callB (lenK K) rfl (T.free _ (by decide +kernel)) (by decide +kernel) (pa_cons (pv 0) pa_nil)) pa_nil))) pa_nil))))))), ?_⟩)) (F.bindsN fun _ _ _ _ _ _ us hl => match us, hl with | [_, _], _ => rfl) F.kp
  · obtain ⟨a, ns, m, rfl, _⟩ := h
    rfl
  · obtain ⟨a, ns, m, rfl, hs, m1, m2, kk⟩ := h
    refine ⟨_, rfl, _, rfl, a, _, rfl, .inl hs, _, _, rfl, 1, _, rfl, ?_⟩
    rw [List.length_map]
    have e : ∀ z : Int, (∃ c : Nat, c ≤ 63 ∧ z = c) → ∃ n : Int, (V.int z = V.int n) ∧ RgOk 0 n ∧ ∀ l, H l = none → Q (.ref l) (upd H l (.lst (rgV 0 n))) := fun z ⟨c, hc, ez⟩ =>
      ⟨z, rfl, ⟨by omega, by omega, by omega, by omega, by omega⟩, fun l nl => kk l c _ (same_updN nl) hc (by rw [upd_same, rg_mv z c ez])⟩
    refine e _ ⟨max 1 (min m ns.length), by omega, ?_⟩
    split <;> split <;> omega
end
end K03

set_option Elab.async false
set_option linter.all false
set_option maxRecDepth 100000
set_option maxHeartbeats 4000000
namespace K03
open PySem PySem.Spec PyProof.Rows L2 Lw
abbrev sAllM : Stmt := top 20
abbrev nAllM : List Str := ["_law_count", "_law_found", "_law_number", "_law_longer", "_law_some", "_law_mark"]
theorem scAllM : FnScope nAllM ["_law_count"] (defScope sAllM) := ⟨rfl, rfl, rfl, by decide +kernel, rfl, by decide +kernel, by decide +kernel⟩
abbrev sDrawn : Stmt := top 21
abbrev nDrawn : List Str := ["_law_pot_here", "_law_count", "_law_found", "_law_number"]
theorem scDrawn : FnScope nDrawn ["_law_pot_here", "_law_count"] (defScope sDrawn) := ⟨rfl, rfl, rfl, by decide +kernel, rfl, by decide +kernel, by decide +kernel⟩
/-! ### marks that grow -/
structure Pre (n : Nat) (ms : List Nat) : Prop where
  len : ms.length = n
  le : ∀ i, i < n → gd ms i ≤ i
  fix : ∀ i, i < n → gd ms (gd ms i) = gd ms i
theorem gd_snoc {ms : List Nat} {v i : Nat} : gd (ms ++ [v]) i = if i < ms.length then gd ms i else if i = ms.length then v else 0 := by
  unfold gd
  rw [List.getD_eq_getElem?_getD, List.getD_eq_getElem?_getD]
  by_cases h : i < ms.length
  · rw [if_pos h, List.getElem?_append_left h]
  · rw [if_neg h, List.getElem?_append_right (by omega)]
    by_cases e : i = ms.length
    · rw [if_pos e, e, Nat.sub_self]
      rfl
    · rw [if_neg e]
      have : ∃ j, i - ms.length = j + 1 := ⟨i - ms.length - 1, by omega⟩
      obtain ⟨j, hj⟩ := this
      rw [hj]
      rfl
theorem mem_gd {ms : List Nat} {v : Nat} (h : v ∈ ms) : ∃ i, i < ms.length ∧ gd ms i = v := by
  obtain ⟨i, hi, e⟩ := List.getElem_of_mem h
  refine ⟨i, hi, ?_⟩
  unfold gd
  rw [List.getD_eq_getElem?_getD, List.getElem?_eq_getElem hi]
  exact e
theorem Pre.nil : Pre 0 [] := ⟨rfl, fun i h => absurd h (Nat.not_lt_zero i), fun i h => absurd h (Nat.not_lt_zero i)⟩
theorem Pre.snoc {n v : Nat} {ms : List Nat} (p : Pre n ms) (h : v = n ∨ v ∈ ms) : Pre (n + 1) (ms ++ [v]) := by
  have hv : v ≤ n ∧ (v < n → gd ms v = v) := by
    rcases h with h | h
    · exact ⟨by omega, fun z => by omega⟩
    · obtain ⟨i, hi, e⟩ := mem_gd h
      have h1 := p.le i (by have := p.len; omega)
      have h2 := p.fix i (by have := p.len; omega)
      rw [e] at h1 h2
      exact ⟨by have := p.len; omega, fun _ => h2⟩
  refine ⟨by rw [List.length_append, List.length_singleton, p.len], fun i hi => ?_, fun i hi => ?_⟩
  · rw [gd_snoc, p.len]
    by_cases l : i < n
    · rw [if_pos l]; exact p.le i l
    · rw [if_neg l, if_pos (by omega)]; omega
  · rw [gd_snoc (i := i), p.len]
    by_cases l : i < n
    · have h1 := p.le i l
      rw [if_pos l, gd_snoc, p.len, if_pos (by omega)]
      exact p.fix i l
    · rw [if_neg l, if_pos (by omega), gd_snoc, p.len]
      by_cases l2 : v < n
      · rw [if_pos l2]; exact hv.2 l2
      · rw [if_neg l2, if_pos (by omega)]
theorem Pre.canon {n : Nat} {ms : List Nat} (p : Pre n ms) (h1 : 3 ≤ n) (h2 : n ≤ 6) : Canon ms := by
  have l := p.len
  subst l
  exact ⟨h1, h2, p.le, p.fix⟩
def AllPre (K : PySem.W.Frag) (H : Hp) (n : Nat) (Ts : List Addr) : Prop := ∀ T ∈ Ts, ∃ ms, Pre n ms ∧ SqT K H T (mv ms)
theorem AllPre.same {K : PySem.W.Frag} {H H' : Hp} {n : Nat} {Ts : List Addr} (h : AllPre K H n Ts) (s : Same H H') : AllPre K H' n Ts := fun T hT => by
  obtain ⟨ms, p, q⟩ := h T hT
  exact ⟨ms, p, sqT_same s q⟩
theorem sqT_upd {K : PySem.W.Frag} {H : Hp} {l T : Addr} {xs ys : List V} {o : HO} (h : H l = some (.lst xs)) (q : SqT K H T ys) : SqT K (upd H l o) T ys := by
  rcases q with (q | ⟨ob, q⟩) | q
  · exact .inl (.inl (by rw [upd_ne (fun z => by rw [z, h] at q; cases q)]; exact q))
  · exact .inl (.inr ⟨ob, by rw [upd_ne (fun z => by rw [z, h] at q; cases q)]; exact q⟩)
  · exact .inr q
theorem AllPre.upd {K : PySem.W.Frag} {H : Hp} {n : Nat} {Ts : List Addr} {l : Addr} {xs : List V} {o : HO} (a : AllPre K H n Ts) (h : H l = some (.lst xs)) : AllPre K (upd H l o) n Ts := fun T hT => by
  obtain ⟨ms, p, q⟩ := a T hT
  exact ⟨ms, p, sqT_upd h q⟩
theorem AllPre.append {K : PySem.W.Frag} {H : Hp} {n : Nat} {Ts Us : List Addr} (a : AllPre K H n Ts) (b : AllPre K H n Us) : AllPre K H n (Ts ++ Us) := fun T hT => by
  rcases List.mem_append.mp hT with h | h
  · exact a T h
  · exact b T h
theorem mv_ints (ms : List Nat) : mv ms = (ms.map fun n : Nat => (n : Int)).map V.int := by
  unfold mv
  rw [List.map_map]
  rfl
theorem mv_toNat {ms : List Nat} : ∀ {ns : List Int}, (∀ k ∈ ns, ∃ m ∈ ms, k = ((m : Nat) : Int)) → mv (ns.map Int.toNat) = ns.map V.int ∧ ∀ v ∈ ns.map Int.toNat, v ∈ ms
  | [], _ => ⟨rfl, fun v h => by cases h⟩
  | k :: ns, h => by
    obtain ⟨i1, i2⟩ := mv_toNat (ns := ns) fun k hk => h k (List.mem_cons_of_mem _ hk)
    obtain ⟨m, hm, rfl⟩ := h k List.mem_cons_self
    refine ⟨?_, fun v hv => ?_⟩
    · show V.int ((((m : Nat) : Int).toNat : Nat) : Int) :: mv (ns.map Int.toNat) = _
      rw [i1, Int.toNat_natCast]
      rfl
    · rcases List.mem_cons.mp hv with e | e
      · rw [e, Int.toNat_natCast]; exact hm
      · exact i2 v e
theorem mv_append (a b : List Nat) : mv (a ++ b) = mv a ++ mv b := List.map_append ..
/-- sorted(set(t)), t some marks -/
theorem ss_reads {K : PySem.W.Frag} {w : World} {σ : L2.St} {H : Hp} {Q : VK} {i : Nat} {t : Addr} {ms : List Nat} (hσ : σ[i]? = some (some (.ref t))) (hs : SqT K H t (mv ms)) (hl : ms.length ≤ 6)
    (h : ∀ (q : Addr) (ns : List Nat) (H' : Hp), Same H H' → H q = none → H' q = some (.lst (mv ns)) → ns.length ≤ ms.length → (∀ v ∈ ns, v ∈ ms) → Q (.ref q) H') :
    tCB (rSortedSet w) (tCons (tCB (rSetT K w) (tCons (tVar i) tNil)) tNil) σ H Q := by
  refine ⟨_, hσ, t, ms.map fun n : Nat => (n : Int), rfl, by rw [← mv_ints]; exact hs, by rw [List.length_map]; unfold scanBound; omega, fun p n hp hn => ?_⟩
  rw [List.length_map] at hn
  refine ⟨p, _, n, rfl, upd_same, by omega, fun ns q pw mem len nq => ?_⟩
  have hm : ∀ k ∈ ns, ∃ m ∈ ms, k = ((m : Nat) : Int) := fun k hk => by
    have e := of_decide_eq_true ((mem k).mp hk)
    obtain ⟨m, hm, e⟩ := List.mem_map.mp e
    exact ⟨m, hm, e.symm⟩
  obtain ⟨e1, e2⟩ := mv_toNat hm
  have s1 : Same H (L2.upd H p (SetO w p (fun j => decide (j ∈ ms.map fun n : Nat => (n : Int))) n)) := same_updN hp
  refine h q (ns.map Int.toNat) _ (s1.trans (same_updN nq)) (s1.free nq) (by rw [upd_same, e1]) (by rw [List.length_map]; omega) e2
end K03

set_option Elab.async false
set_option linter.all false
set_option maxRecDepth 100000
set_option maxHeartbeats 4000000
namespace K03
open PySem PySem.Spec PyProof.Rows L2 Lw
def fac : Nat → Nat
  | 0 => 1
  | n + 1 => fac n * (n + 1)
theorem fac_le : ∀ n, n ≤ 3 → fac n ≤ 6 := by decide
section
variable {P : Program} {w : World} {K : PySem.W.Frag} {mg : Str → Option Value} {base : Heap}
/-! ### drawn marks -/
def spDrawn (K : PySem.W.Frag) : Sp := fun vs H Q _ => ∃ (q : Addr) (c n : Nat), vs = [.ref q, .int (c : Nat)] ∧ c ≤ 6 ∧ PotAt H q n ∧ n < 90000 ∧ ∀ (t : Addr) (ms : List Nat) (H' : Hp), Keep q H H' → PotAt H' q (n + 6) → Pre c ms → SqT K H' t (mv ms) → Q (.ref t) H'
theorem sqT_keep {H H' : Hp} {q T : Addr} {xs ys : List V} (h : H q = some (.lst xs)) (k : Keep q H H') (s : SqT K H T ys) : SqT K H' T ys := by
  rcases s with (s | ⟨ob, s⟩) | s
  · exact .inl (.inl (k _ _ (fun z => by rw [z, h] at s; cases s) s))
  · exact .inl (.inr ⟨ob, k _ _ (fun z => by rw [z, h] at s; cases s) s⟩)
  · exact .inr s
theorem ok_Drawn {f : Addr} {fd : FuncData} (T : Txt K mg) (F : FnP K "_law_drawn_marks" "_law_drawn_marks" sDrawn f fd) (GOf : Pr P w K mg base 2 (ga K "_law_of") ["_law_pot_here", "_law_some"] (spOf K)) : Pr P w K mg base 3 f ["_law_pot_here", "_law_count"] (spDrawn K) := by
  refine .of (F.ok scDrawn (fun vs H Q E h => ?_) (fun cdv A outer s H vs Q E hr h => ⟨_, PSs.nox (pss_cons (ps_set (i := 2) scDrawn.nd rfl (Or.inl rfl) (pe_tup pa_nil)) (pss_cons (ps_for PassesOwn.never rfl (pi_range1 rfl (T.free _ (by decide +kernel)) (pa_cons (pv 1) pa_nil)) (pg_name (i := 3) scDrawn.nd rfl (Or.inl rfl)) (pss_one (ps_set (i := 2) scDrawn.nd rfl (Or.inl rfl) (pe_op (catK K) (pv 2) (pe_tup (pa_cons (pcl GOf (hr.mono (by decide)) rfl (T.gl "_law_of" (by decide +kernel)) (pa_cons (pv 0) (pa_cons (pe_op op_cat (pe_lst (pa_cons (pv 3) pa_nil)) (pe_callB (cr_sortedSet rfl) rfl (T.free _ (by decide +kernel)) (by decide +kernel) (pa_cons (pe_callTy (cr_setT rfl) rfl (T.free _ (by decide +kernel)) (by decide +kernel) (pa_cons (pv 2) pa_nil)) pa_nil))) pa_nil))) pa_nil)))))) (pss_one (ps_ret (pv 2))))), ?_⟩)) (F.bindsN fun _ _ _ _ _ _ us hl => match us, hl with | [_, _], _ => rfl) F.kp
  · obtain ⟨q, c, n, rfl, _⟩ := h
    rfl
  · obtain ⟨q, c, n, rfl, hc, hp, hn, kk⟩ := h
    have big := big_line
    refine seq_reads (set_reads ⟨Nat.zero_le _, fun t0 nt0 => ?_⟩)
    dsimp only
    refine ⟨_, rfl, (c : Int), rfl, by omega, by omega, ?_⟩
    have ec : ((c : Int)).toNat = c := Int.toNat_natCast c
    rw [ec]
    refine for_range (lo := 0) (n := c) (fun i σ H' => ∃ (t : Addr) (ms : List Nat) (s1 : Option V), σ = [some (.ref q), some (.int (c : Nat)), some (.ref t), s1] ∧ Keep q H H' ∧ PotAt H' q (n + i) ∧ Pre i ms ∧ SqT K H' t (mv ms)) ⟨t0, [], none, rfl, Keep.of (same_updN nt0), hp.same (same_updN nt0), Pre.nil, SqT.of upd_same⟩ ?_ ?_
    · rintro i σ H1 hi ⟨t, ms, s1, rfl, k1, p1, pm, ht⟩
      have lm := pm.len
      dsimp only [gName]
      refine ⟨_, rfl, _, rfl, _, rfl, by show 1 ≤ sizeLine; omega, fun l1 nl1 => ss_reads (i := 2) rfl (sqT_same (same_updN nl1) ht) (by omega) fun l2 ns H2 s2 nl2 h2 ln mem => ?_⟩
      have h1 : H2 l1 = some (.lst [V.int (0 + (i : Int))]) := s2 _ _ upd_same
      refine ⟨l1, l2, _, _, rfl, rfl, h1, h2, by rw [List.length_singleton, mv_len]; omega, fun p np => ?_⟩
      have sA : Same H1 (upd H2 p (.lst ([V.int (0 + (i : Int))] ++ mv ns))) := ((same_updN nl1).trans s2).trans (same_updN np)
      have p2 := p1.same sA
      have npq : p ≠ q := fun z => by
        obtain ⟨_, _, _, e, _⟩ := p1.same ((same_updN nl1).trans s2)
        rw [z, e] at np
        cases np
      refine ⟨q, p, _, n + i, rfl, p2, by omega, upd_same, npq, by simp, by rw [List.length_append, List.length_singleton, mv_len]; omega, fun x H3 k3 p3 hx => ?_⟩
      have hv : ∃ v : Nat, x = .int (v : Nat) ∧ (v = i ∨ v ∈ ms) := by
        rcases List.mem_append.mp hx with hx | hx
        · exact ⟨i, by rw [List.mem_singleton.mp hx, Int.zero_add], .inl rfl⟩
        · obtain ⟨v, hv, rfl⟩ := List.mem_map.mp hx
          exact ⟨v, rfl, .inr (mem v hv)⟩
      obtain ⟨v, rfl, hv⟩ := hv
      obtain ⟨_, _, _, eq2, _⟩ := id p2
      have ht3 : SqT K H3 t (mv ms) := sqT_keep eq2 k3 (sqT_same sA ht)
      refine ⟨by show 1 ≤ sizeLine; omega, fun p4 np4 => cat_reads (sqT_same (same_updN np4) ht3) (SqT.of upd_same) (by rw [mv_len]; omega) fun t' H' s' ht' => ?_⟩
      have s5 := (same_updN np4).trans s'
      refine ⟨t', ms ++ [v], some (.int (0 + (i : Int))), rfl, k1.trans ((Keep.of sA).trans (k3.trans (Keep.of s5))), p3.same s5, pm.snoc hv, ?_⟩
      rw [mv_append]
      exact ht'
    · rintro σ H1 ⟨t, ms, s1, rfl, k1, p1, pm, ht⟩
      exact ⟨_, rfl, kk t ms H1 k1 (p1.mono (by omega)) pm ht⟩
/-! ### all marks -/
def spAllM (K : PySem.W.Frag) : Sp := fun vs H Q _ => ∃ c : Nat, vs = [.int (c : Nat)] ∧ c ≤ 3 ∧ ∀ (l : Addr) (Ts : List Addr) (H' : Hp), Same H H' → H' l = some (.lst (Ts.map V.ref)) → Ts.length ≤ 6 → AllPre K H' c Ts → Q (.ref l) H'
theorem ok_AllM {f : Addr} {fd : FuncData} (T : Txt K mg) (F : FnP K "_law_all_marks" "_law_all_marks" sAllM f fd) : Pr P w K mg base 1 f ["_law_count"] (spAllM K) := by
  refine .of (F.ok scAllM (fun vs H Q E h => ?_) (fun cdv A outer s H vs Q E hr h => ⟨_, PSs.nox (pss_cons (ps_set (i := 1) scAllM.nd rfl (Or.inl rfl) (pe_lst (pa_cons (pe_tup pa_nil) pa_nil))) (pss_cons (ps_for PassesOwn.never rfl (pi_range1 rfl (T.free _ (by decide +kernel)) (pa_cons (pv 0) pa_nil)) (pg_name (i := 2) scAllM.nd rfl (Or.inl rfl)) (pss_cons (ps_set (i := 3) scAllM.nd rfl (Or.inl rfl) (pe_lst pa_nil)) (pss_cons (ps_for PassesOwn.never rfl (pi_list (pv 1)) (pg_name (i := 4) scAllM.nd rfl (Or.inr rfl)) (pss_cons (ps_expr (bmK K PySem.F.plainAttrs_list PySem.F.slot_list_extend PySem.F.type_list_extend mt_extend (pv 3) (pa_cons (pe_lc (own := [("_law_mark", 5)]) (g := gName 5) (tt := tYes) rfl scAllM.nd (pi_list (pe_callB (cr_sortedSet rfl) rfl (T.free _ (by decide +kernel)) (by decide +kernel) (pa_cons (pe_callTy (cr_setT rfl) rfl (T.free _ (by decide +kernel)) (by decide +kernel) (pa_cons (pv 4) pa_nil)) pa_nil))) (blkOk_by (N := nAllM) (sc := defScope sAllM) (by decide +kernel)) (fun _ _ _ _ _ => (pg_name (i := 5) scAllM.nd rfl (Or.inl rfl))) (fun _ _ _ _ _ => pts_nil) (fun _ _ _ _ _ => (pe_op (catK K) (pv 4) (pe_tup (pa_cons (pv 5) pa_nil))))) pa_nil))) (pss_one (ps_expr (bmK K PySem.F.plainAttrs_list PySem.F.slot_list_append PySem.F.type_list_append mt_append (pv 3) (pa_cons (pe_op (catK K) (pv 4) (pe_tup (pa_cons (pv 2) pa_nil))) pa_nil)))))) (pss_one (ps_set (i := 1) scAllM.nd rfl (Or.inl rfl) (pv 3)))))) (pss_one (ps_ret (pv 1))))), ?_⟩)) (F.bindsN fun _ _ _ _ _ _ us hl => match us, hl with | [_], _ => rfl) F.kp
  · obtain ⟨c, rfl, _⟩ := h
    rfl
  · obtain ⟨c, rfl, hc, kk⟩ := h
    have big := big_line
    refine seq_reads (set_reads ⟨Nat.zero_le _, fun t0 nt0 => ⟨by show 1 ≤ sizeLine; omega, fun l0 nl0 => ?_⟩⟩)
    dsimp only
    have s0 := (same_updN (o := .tup []) nt0).trans (same_updN (o := .lst [V.ref t0]) nl0)
    refine ⟨_, rfl, (c : Int), rfl, by omega, by omega, ?_⟩
    have ec : ((c : Int)).toNat = c := Int.toNat_natCast c
    rw [ec]
    refine for_range (lo := 0) (n := c) (fun i σ H' => ∃ (l : Addr) (Ts : List Addr) (s2 s3 s4 s5 : Option V), σ = [some (.int (c : Nat)), some (.ref l), s2, s3, s4, s5] ∧ Same H H' ∧ H' l = some (.lst (Ts.map V.ref)) ∧ Ts.length ≤ fac i ∧ AllPre K H' i Ts)
      ⟨l0, [t0], none, none, none, none, rfl, s0, upd_same, Nat.le_refl 1, fun T hT => ⟨[], Pre.nil, by rw [List.mem_singleton.mp hT]; exact SqT.of (by rw [upd_ne (ne_of_none upd_same nl0)]; exact upd_same)⟩⟩ ?_ ?_
    · rintro i σ H1 hi ⟨l, Ts, s2, s3, s4, s5, rfl, sm, hl, lT, aT⟩
      have lf := fac_le i (by omega)
      dsimp only [gName]
      refine seq_reads (set_reads ⟨Nat.zero_le _, fun g ng => ?_⟩)
      dsimp only
      have sg := same_updN (o := .lst []) ng
      have hlg : l ≠ g := fun z => by rw [z, ng] at hl; cases hl
      refine seq_reads ⟨_, rfl, l, rfl, ⟨_, SqL.of (sg _ _ hl)⟩, for_list (K := K) (a := l) (xs := Ts.map V.ref) (fun j σ H' => ∃ (Us : List Addr) (s4 s5 : Option V), σ = [some (.int (c : Nat)), some (.ref l), some (.int (0 + (i : Int))), some (.ref g), s4, s5] ∧ Same H1 H' ∧ H' g = some (.lst (Us.map V.ref)) ∧ Us.length ≤ j * (i + 1) ∧ AllPre K H' (i + 1) Us)
        ⟨[], s4, s5, rfl, sg, upd_same, Nat.zero_le _, fun T hT => by cases hT⟩ (fun j σ H' _ ⟨_, _, _, _, s', _⟩ => SqL.of (s' _ _ hl)) ?_ ?_⟩
      · rintro j x σ H2 hx ⟨Us, s4, s5, rfl, sm2, hg, lU, aU⟩
        rw [List.getElem?_map] at hx
        obtain ⟨T1, hT1, rfl⟩ := Option.map_eq_some_iff.mp hx
        have hj : j < Ts.length := (List.getElem?_eq_some_iff.mp hT1).1
        obtain ⟨ms, pm, ht⟩ := aT T1 (List.mem_of_getElem? hT1)
        have lm := pm.len
        have ht2 := sqT_same sm2 ht
        have bU : j * (i + 1) ≤ 6 * 4 := Nat.mul_le_mul (by omega) (by omega)
        dsimp only [gName]
        refine seq_reads ⟨_, rfl, .inl ⟨rfl, _, SqL.of hg⟩, ss_reads (i := 4) rfl ht2 (by omega) fun lq ns H3 sq nq hq ln mem => ⟨lq, rfl, ⟨_, SqL.of hq⟩, fun D hD => lc_list (K := K) (a := lq) (xs := mv ns)
          (fun k H' => ∃ Ws : List Addr, H' D = some (.lst (Ws.map V.ref)) ∧ Ws.length = k ∧ AllPre K H' (i + 1) Ws ∧ Same H3 H') ⟨[], upd_same, rfl, fun T hT => (by cases hT), same_updN hD⟩ (fun k H' _ ⟨_, _, _, _, s'⟩ => SqL.of (s' _ _ hq)) ?_ ?_⟩⟩
        · rintro k x H4 hx ⟨Ws, hW, lW, aW, s4'⟩
          obtain ⟨v, hv, rfl⟩ := List.mem_map.mp (List.mem_of_getElem? hx)
          have hk : k < ns.length := by
            have e := (List.getElem?_eq_some_iff.mp hx).1
            rwa [mv_len] at e
          refine ⟨rfl, _, rfl, _, rfl, by show 1 ≤ sizeLine; omega, fun p np => cat_reads (sqT_same ((sq.trans s4').trans (same_updN np)) ht2) (SqT.of upd_same) (by rw [mv_len]; omega) fun p2 H5 s5' hp2 => ?_⟩
          have s6 := (same_updN (o := .tup [V.int (v : Nat)]) np).trans s5'
          have hW5 : H5 D = some (.lst (Ws.map V.ref)) := s6 _ _ hW
          refine ⟨_, hW5, by rw [List.length_map]; omega, Ws ++ [p2], ?_, by rw [List.length_append, lW]; rfl, ?_, fun b o e => ?_⟩
          · rw [upd_same, List.map_append]
            rfl
          · refine ((aW.same s6).append fun T hT => ⟨ms ++ [v], pm.snoc (.inr (mem v hv)), ?_⟩).upd hW5
            rw [List.mem_singleton.mp hT, mv_append]
            exact hp2
          · rw [upd_ne (fun z : b = D => by rw [z, hD] at e; cases e)]
            exact s6 _ _ (s4' _ _ e)
        · rintro H4 ⟨Ws, hW, lW, aW, s4'⟩
          rw [mv_len] at lW
          have s24 := sq.trans s4'
          have hg4 : H4 g = some (.lst (Us.map V.ref)) := s24 _ _ hg
          refine ⟨g, D, _, _, rfl, rfl, hg4, hW, by rw [List.length_map, List.length_map]; omega, ?_⟩
          dsimp only
          have hg5 : upd H4 g (.lst (Us.map V.ref ++ Ws.map V.ref)) g = some (.lst (Us.map V.ref ++ Ws.map V.ref)) := upd_same
          have ht5 : SqT K (upd H4 g (.lst (Us.map V.ref ++ Ws.map V.ref))) T1 (mv ms) := sqT_upd hg4 (sqT_same s24 ht2)
          have a5 : AllPre K (upd H4 g (.lst (Us.map V.ref ++ Ws.map V.ref))) (i + 1) (Us ++ Ws) := ((aU.same s24).append aW).upd hg4
          have s5' : Same H1 (upd H4 g (.lst (Us.map V.ref ++ Ws.map V.ref))) := fun b o e => by
            rw [upd_ne (ne_of_none e ng)]
            exact s24 _ _ (sm2 _ _ e)
          generalize upd H4 g (.lst (Us.map V.ref ++ Ws.map V.ref)) = H5 at hg5 ht5 a5 s5'
          refine ⟨_, rfl, .inl ⟨rfl, _, SqL.of hg5⟩, _, rfl, _, rfl, by show 1 ≤ sizeLine; omega, fun p np => cat_reads (sqT_same (same_updN np) ht5) (SqT.of upd_same) (by rw [mv_len]; omega) fun p2 H6 s6' hp2 => ?_⟩
          have s6 := (same_updN (o := .tup [V.int (0 + (i : Int))]) np).trans s6'
          have hg6 := s6 _ _ hg5
          refine ⟨g, _, _, rfl, rfl, hg6, by rw [List.length_append, List.length_map, List.length_map]; omega, Us ++ Ws ++ [p2], some (.ref T1), _, rfl, fun b o e => ?_, ?_, ?_, ?_⟩
          · rw [upd_ne (ne_of_none e ng)]
            exact s6 _ _ (s5' _ _ e)
          · rw [upd_same, List.map_append, List.map_append]
            rfl
          · rw [List.length_append, List.length_append, List.length_singleton, Nat.succ_mul]
            omega
          · refine ((a5.same s6).append fun T hT => ⟨ms ++ [i], pm.snoc (.inl rfl), ?_⟩).upd hg6
            rw [List.mem_singleton.mp hT, mv_append]
            have e0 : mv [i] = [V.int (0 + (i : Int))] := by
              rw [Int.zero_add]
              rfl
            rw [e0]
            exact hp2
      · rintro σ H2 ⟨Us, s4, s5, rfl, sm2, hg, lU, aU⟩
        rw [List.length_map] at lU
        refine ⟨_, rfl, g, Us, _, _, _, _, rfl, sm.trans sm2, hg, Nat.le_trans lU (Nat.mul_le_mul_right _ lT), aU⟩
    · rintro σ H1 ⟨l, Ts, s2, s3, s4, s5, rfl, sm, hl, lT, aT⟩
      exact ⟨_, rfl, kk l Ts H1 sm hl (Nat.le_trans lT (fac_le c hc)) aT⟩
end
end K03

set_option Elab.async false
set_option linter.all false
set_option maxRecDepth 100000
set_option maxHeartbeats 4000000
namespace K03
open PySem PySem.Spec PyProof.Rows L2 Lw
abbrev sBounds : Stmt := top 22
abbrev nBounds : List Str := ["_law_one", "_law_other", "_law_third", "_law_both", "_law_common"]
theorem scBounds : FnScope nBounds ["_law_one", "_law_other", "_law_third"] (defScope sBounds) := ⟨rfl, rfl, rfl, by decide +kernel, rfl, by decide +kernel, by decide +kernel⟩
abbrev sRight : Stmt := top 23
abbrev nRight : List Str := ["_law_pot_here", "_law_count", "_law_some", "_law_lap", "_law_bare", "_law_at"]
theorem scRight : FnScope nRight ["_law_pot_here"] (defScope sRight) := ⟨rfl, rfl, rfl, by decide +kernel, rfl, by decide +kernel, by decide +kernel⟩
abbrev sLaw : Stmt := top 24
abbrev nLaw : List Str := ["_law_script", "_law_every", "_law_marks", "_law_one", "_law_other", "_law_third", "_law_place", "_law_pot_here", "_law_lap"]
theorem scLaw : FnScope nLaw ["_law_script"] (defScope sLaw) := ⟨rfl, rfl, rfl, by decide +kernel, rfl, by decide +kernel, by decide +kernel⟩
/-! ### readings that leave all as it was -/
def PureB (te : TE) (σ : L2.St) (H0 : Hp) (v : Bool) : Prop := ∀ (H : Hp) (Q : VK), Same H0 H → (∀ H', Same H H' → Q (.bl v) H') → te σ H Q
def PureT (tt : TT) (σ : L2.St) (H0 : Hp) (v : Bool) : Prop := ∀ (H : Hp) (Q : Bool → Hp → Prop), Same H0 H → (∀ H', Same H H' → Q v H') → tt σ H Q
def PureS (K : PySem.W.Frag) (te : TE) (σ : L2.St) (H0 : Hp) (ms : List Nat) : Prop := ∀ (H : Hp) (Q : VK), Same H0 H → (∀ x H', Same H H' → StAt K H' x ms → Q (.ref x) H') → te σ H Q
section
variable {K : PySem.W.Frag} {σ : L2.St} {H0 : Hp} {v1 v2 : Bool} {ta tb : TE} {t1 t2 : TT} {ms os : List Nat}
theorem pB_and (a : PureB ta σ H0 v1) (b : PureB tb σ H0 v2) : PureB (tAndV ta tb) σ H0 (v1 && v2) := fun H Q s k => a H _ s fun H' s' => ⟨v1, rfl, by
  cases v1 with
  | true => exact iteT (b H' Q (s.trans s') fun H'' s'' => k H'' (s'.trans s''))
  | false => exact iteF (k H' s')⟩
theorem pB_ne (a : PureB ta σ H0 v1) (b : PureB tb σ H0 v2) : PureB (tOp rNe ta tb) σ H0 (v1 != v2) := fun H Q s k => a H _ s fun H' s' => b H' _ (s.trans s') fun H'' s'' => ⟨rfl, by
  have e : (!decide (V.bl v1 = V.bl v2)) = (v1 != v2) := by cases v1 <;> cases v2 <;> rfl
  rw [e]
  exact k H'' (s'.trans s'')⟩
theorem pT_test (a : PureB ta σ H0 v1) : PureT (tTest ta) σ H0 v1 := fun H Q s k => a H _ s fun H' s' => ⟨v1, rfl, k H' s'⟩
theorem pT_or (a : PureT t1 σ H0 v1) (b : PureT t2 σ H0 v2) : PureT (tOr t1 t2) σ H0 (v1 || v2) := fun H Q s k => a H _ s fun H' s' => by
  cases v1 with
  | true => exact iteT (k H' s')
  | false => exact iteF (b H' Q (s.trans s') fun H'' s'' => k H'' (s'.trans s''))
theorem pT_and (a : PureT t1 σ H0 v1) (b : PureT t2 σ H0 v2) : PureT (tAnd t1 t2) σ H0 (v1 && v2) := fun H Q s k => a H _ s fun H' s' => by
  cases v1 with
  | true => exact iteT (b H' Q (s.trans s') fun H'' s'' => k H'' (s'.trans s''))
  | false => exact iteF (k H' s')
theorem pT_not (a : PureT t1 σ H0 v1) : PureT (tNot t1) σ H0 (!v1) := fun H Q s k => a H _ s fun H' s' => k H' s'
theorem pS_var {i : Nat} {a : Addr} (h : σ[i]? = some (some (.ref a))) (st : StAt K H0 a ms) : PureS K (tVar i) σ H0 ms := fun H Q s k => ⟨_, h, k a H (Same.refl _) (st.same s)⟩
theorem pS_ix {i : Nat} {l : Addr} {xs : List V} {j : Int} {a : Addr} (h : σ[i]? = some (some (.ref l))) (hl : SqL K H0 l xs) (hj : atI xs j = some (.ref a)) (st : StAt K H0 a ms) : PureS K (tOp (rIxL K) (tVar i) (tC (.int j))) σ H0 ms :=
  fun H Q s k => ⟨_, h, l, xs, j, _, rfl, rfl, s.seq hl, hj, k a H (Same.refl _) (st.same s)⟩
theorem pS_or (T : PySem.W.notFirst K (cS K) (.ref (cS K)) = true) (a : PureS K ta σ H0 ms) (b : PureS K tb σ H0 os) (c : Canon ms) (d : Canon os) (hl : ms.length = os.length) : PureS K (tOp (rOwnB (cS K) (spOr K) E0) ta tb) σ H0 (orM ms os) := fun H Q s k =>
  a H _ s fun x H1 s1 hx => b H1 _ (s.trans s1) fun y H2 s2 hy => by
    obtain ⟨dx, t, ex, _⟩ := hx.same s2
    obtain ⟨dy, u, ey, _⟩ := id hy
    exact ⟨x, dx, y, dy, _, _, rfl, rfl, ex, ey, x, y, ms, os, rfl, hx.same s2, hy, c, d, hl, fun z H' s' _ hz => k z H' (s1.trans (s2.trans s')) hz⟩
theorem pS_and (T : PySem.W.notFirst K (cS K) (.ref (cS K)) = true) (a : PureS K ta σ H0 ms) (b : PureS K tb σ H0 os) (c : Canon ms) (d : Canon os) (hl : ms.length = os.length) : PureS K (tOp (rOwnB (cS K) (spAnd K) E0) ta tb) σ H0 (andM ms os) := fun H Q s k =>
  a H _ s fun x H1 s1 hx => b H1 _ (s.trans s1) fun y H2 s2 hy => by
    obtain ⟨dx, t, ex, _⟩ := hx.same s2
    obtain ⟨dy, u, ey, _⟩ := id hy
    exact ⟨x, dx, y, dy, _, _, rfl, rfl, ex, ey, x, y, ms, os, rfl, hx.same s2, hy, c, d, hl, fun z H' s' _ hz => k z H' (s1.trans (s2.trans s')) hz⟩
variable {mg : Str → Option Value}
theorem st_ty (T : Txt K mg) {H : Hp} {a : Addr} (h : StAt K H a ms) : TyX K H (.ref a) (.ref (cS K)) := by
  obtain ⟨dx, t, e, _⟩ := h
  exact .base (.ins e T.cls T.ca T.cg T.ct T.obj)
theorem pB_eq (T : Txt K mg) (a : PureS K ta σ H0 ms) (b : PureS K tb σ H0 os) : PureB (tOp (rOwnEq K (cS K) (spEq K) E0) ta tb) σ H0 (decide (ms = os)) := fun H Q s k =>
  a H _ s fun x H1 s1 hx => b H1 _ (s.trans s1) fun y H2 s2 hy => by
    obtain ⟨dx, t, ex, _⟩ := hx.same s2
    exact ⟨x, dx, _, _, rfl, ex, st_ty T hy, T.nfst, x, y, ms, os, rfl, hx.same s2, hy, k H2 (s1.trans s2)⟩
theorem pB_neS (T : Txt K mg) (a : PureS K ta σ H0 ms) (b : PureS K tb σ H0 os) : PureB (tOp (rOwnNe K (cS K) (spEq K) E0) ta tb) σ H0 (!decide (ms = os)) := fun H Q s k =>
  a H _ s fun x H1 s1 hx => b H1 _ (s.trans s1) fun y H2 s2 hy => by
    obtain ⟨dx, t, ex, _⟩ := hx.same s2
    exact ⟨x, dx, _, _, rfl, ex, st_ty T hy, T.nfst, x, y, ms, os, rfl, hx.same s2, hy, _, rfl, k H2 (s1.trans s2)⟩
theorem pB_within (a : PureS K ta σ H0 ms) (b : PureS K tb σ H0 os) (c : Canon ms) (hl : ms.length = os.length) : PureB (tMeth (cS K) "within" (spWithin K) [] E0 ta (tCons tb tNil)) σ H0 (withinB ms os) := fun H Q s k =>
  a H _ s fun x H1 s1 hx => by
    obtain ⟨dx, t, ex, _⟩ := id hx
    exact ⟨x, dx, _, rfl, ex, rfl, b H1 _ (s.trans s1) fun y H2 s2 hy => ⟨x, y, ms, os, rfl, hx.same s2, hy, c, hl, fun H' s' => k H' (s1.trans (s2.trans s'))⟩⟩
end
theorem if_no {tt : TT} {t u : TS} {D : Ends} {σ : L2.St} {H0 H : Hp} (h : PureT tt σ H0 false) (s : Same H0 H) (k : ∀ H', Same H0 H' → u D σ H') : tIfS tt t u D σ H := h H _ s fun H' s' => iteF (k H' (s.trans s'))
theorem Txt.orAt {K : PySem.W.Frag} {mg : Str → Option Value} (T : Txt K mg) : PySem.W.findIn K (.ref (cS K)) (PySem.dunder Operator.BitOr.info.2) = some (some (.ref (ma K (cS K) "__or__"))) := by
  have e : PySem.dunder Operator.BitOr.info.2 = ("__or__" : Str) := by decide +kernel
  rw [e]
  exact T.at_ _ (by decide +kernel)
theorem Txt.andAt {K : PySem.W.Frag} {mg : Str → Option Value} (T : Txt K mg) : PySem.W.findIn K (.ref (cS K)) (PySem.dunder Operator.BitAnd.info.2) = some (some (.ref (ma K (cS K) "__and__"))) := by
  have e : PySem.dunder Operator.BitAnd.info.2 = ("__and__" : Str) := by decide +kernel
  rw [e]
  exact T.at_ _ (by decide +kernel)
section
variable {P : Program} {w : World} {K : PySem.W.Frag} {mg : Str → Option Value} {base : Heap}
def spBounds (K : PySem.W.Frag) : Sp := fun vs H Q _ => ∃ (a b c : Addr) (ms os ps : List Nat), vs = [.ref a, .ref b, .ref c] ∧ StAt K H a ms ∧ StAt K H b os ∧ StAt K H c ps ∧ Canon ms ∧ Canon os ∧ Canon ps ∧ ms.length = os.length ∧ ms.length = ps.length ∧ ∀ H', Same H H' → Q (.bl true) H'
theorem ok_Bounds {f : Addr} {fd : FuncData} (T : Txt K mg) (F : FnP K "_law_are_bounds_right" "_law_are_bounds_right" sBounds f fd) (GOr : Pr P w K mg base 5 (ma K (cS K) "__or__") ["self", "other"] (spOr K)) (GAnd : Pr P w K mg base 5 (ma K (cS K) "__and__") ["self", "other"] (spAnd K))
    (GEq : Pr P w K mg base 1 (ma K (cS K) "__eq__") ["self", "other"] (spEq K)) (GWithin : Pr P w K mg base 4 (ma K (cS K) "within") ["self", "other"] (spWithin K)) : Pr P w K mg base 6 f ["_law_one", "_law_other", "_law_third"] (spBounds K) := by
  refine .of (F.ok scBounds (fun vs H Q E h => ?_) (fun cdv A outer s H vs Q E hr h => ⟨_, PSs.nox (pss_cons (ps_par (i := 3) (j := 4) (by rfl) scBounds.nd rfl rfl (by decide) rfl rfl (pa_cons (pe_op (opB (op := .BitOr) T.orAt (T.fn "__or__" (by decide +kernel)) T.sf GOr (hr.mono (by decide))) (pv 0) (pv 1)) (pa_cons (pe_op (opB (op := .BitAnd) T.andAt (T.fn "__and__" (by decide +kernel)) T.sf GAnd (hr.mono (by decide))) (pv 0) (pv 1)) pa_nil)) (by rfl)) (pss_cons (ps_if (pt_cmpR op_ne (pe_and (pmt (pv 0) T.cls (T.at_ "within" (by decide +kernel)) (T.fn "within" (by decide +kernel)) GWithin (hr.mono (by decide)) (pa_cons (pv 2) pa_nil)) (pe_one (pmt (pv 1) T.cls (T.at_ "within" (by decide +kernel)) (T.fn "within" (by decide +kernel)) GWithin (hr.mono (by decide)) (pa_cons (pv 2) pa_nil)))) (pmt (pv 3) T.cls (T.at_ "within" (by decide +kernel)) (T.fn "within" (by decide +kernel)) GWithin (hr.mono (by decide)) (pa_cons (pv 2) pa_nil)) (nomark _)) (pss_one (ps_ret pe_bl)) pss_nil) (pss_cons (ps_if (pt_cmpR op_ne (pe_and (pmt (pv 2) T.cls (T.at_ "within" (by decide +kernel)) (T.fn "within" (by decide +kernel)) GWithin (hr.mono (by decide)) (pa_cons (pv 0) pa_nil)) (pe_one (pmt (pv 2) T.cls (T.at_ "within" (by decide +kernel)) (T.fn "within" (by decide +kernel)) GWithin (hr.mono (by decide)) (pa_cons (pv 1) pa_nil)))) (pmt (pv 2) T.cls (T.at_ "within" (by decide +kernel)) (T.fn "within" (by decide +kernel)) GWithin (hr.mono (by decide)) (pa_cons (pv 4) pa_nil)) (nomark _)) (pss_one (ps_ret pe_bl)) pss_nil) (pss_cons (ps_if (PW.pt (pw_or (pt_cmpR (opNe T.obj T.ne (T.at_ "__eq__" (by decide +kernel)) (T.fn "__eq__" (by decide +kernel)) GEq (hr.mono (by decide))) (pe_op (opB (op := .BitOr) T.orAt (T.fn "__or__" (by decide +kernel)) T.sf GOr (hr.mono (by decide))) (pe_op (opB (op := .BitOr) T.orAt (T.fn "__or__" (by decide +kernel)) T.sf GOr (hr.mono (by decide))) (pv 0) (pv 1)) (pv 2)) (pe_op (opB (op := .BitOr) T.orAt (T.fn "__or__" (by decide +kernel)) T.sf GOr (hr.mono (by decide))) (pv 0) (pe_op (opB (op := .BitOr) T.orAt (T.fn "__or__" (by decide +kernel)) T.sf GOr (hr.mono (by decide))) (pv 1) (pv 2))) (nomark _)) (pw_or1 (pt_cmpR (opNe T.obj T.ne (T.at_ "__eq__" (by decide +kernel)) (T.fn "__eq__" (by decide +kernel)) GEq (hr.mono (by decide))) (pe_op (opB (op := .BitAnd) T.andAt (T.fn "__and__" (by decide +kernel)) T.sf GAnd (hr.mono (by decide))) (pe_op (opB (op := .BitAnd) T.andAt (T.fn "__and__" (by decide +kernel)) T.sf GAnd (hr.mono (by decide))) (pv 0) (pv 1)) (pv 2)) (pe_op (opB (op := .BitAnd) T.andAt (T.fn "__and__" (by decide +kernel)) T.sf GAnd (hr.mono (by decide))) (pv 0) (pe_op (opB (op := .BitAnd) T.andAt (T.fn "__and__" (by decide +kernel)) T.sf GAnd (hr.mono (by decide))) (pv 1) (pv 2))) (nomark _))))) (pss_one (ps_ret pe_bl)) pss_nil) (pss_one (ps_ret (pe_and (pe_cmpR (opEq (T.at_ "__eq__" (by decide +kernel)) (T.fn "__eq__" (by decide +kernel)) GEq (hr.mono (by decide))) (pe_op (opB (op := .BitOr) T.orAt (T.fn "__or__" (by decide +kernel)) T.sf GOr (hr.mono (by decide))) (pv 0) (pe_op (opB (op := .BitAnd) T.andAt (T.fn "__and__" (by decide +kernel)) T.sf GAnd (hr.mono (by decide))) (pv 0) (pv 1))) (pv 0) (nomark _)) (pe_one (pe_cmpR (opEq (T.at_ "__eq__" (by decide +kernel)) (T.fn "__eq__" (by decide +kernel)) GEq (hr.mono (by decide))) (pe_op (opB (op := .BitAnd) T.andAt (T.fn "__and__" (by decide +kernel)) T.sf GAnd (hr.mono (by decide))) (pv 0) (pe_op (opB (op := .BitOr) T.orAt (T.fn "__or__" (by decide +kernel)) T.sf GOr (hr.mono (by decide))) (pv 0) (pv 1))) (pv 0) (nomark _)))))))))), ?_⟩)) (F.bindsN fun _ _ _ _ _ _ us hl => match us, hl with | [_, _, _], _ => rfl) F.kp
  · obtain ⟨a, b, c, ms, os, ps, rfl, _⟩ := h
    rfl
  · obtain ⟨a, b, c, ms, os, ps, rfl, ha, hb, hc, ca, cb, cc, l1, l2, kk⟩ := h
    have l3 : os.length = ps.length := l1.symm.trans l2
    have lo := or_len ca cb l1
    have la := and_len (ms := ms) (os := os) l1
    have co := or_canon ca cb l1
    have cn := and_canon (os := os) ca l1
    refine pS_or T.nfst (pS_var (i := 0) rfl ha) (pS_var (i := 1) rfl hb) ca cb l1 H _ (Same.refl _) fun x H1 s1 hx => ?_
    refine pS_and T.nfst (pS_var (i := 0) rfl (ha.same s1)) (pS_var (i := 1) rfl (hb.same s1)) ca cb l1 H1 _ (Same.refl _) fun y H2 s2 hy => ?_
    refine ⟨_, _, rfl, ?_⟩
    dsimp only
    have s02 := s1.trans s2
    generalize hσ : ((L2.start nBounds [V.ref a, V.ref b, V.ref c]).set 3 (some (V.ref x))).set 4 (some (V.ref y)) = σ
    have v0 : PureS K (tVar 0) σ H2 ms := pS_var (by rw [← hσ]; rfl) (ha.same s02)
    have v1 : PureS K (tVar 1) σ H2 os := pS_var (by rw [← hσ]; rfl) (hb.same s02)
    have v2 : PureS K (tVar 2) σ H2 ps := pS_var (by rw [← hσ]; rfl) (hc.same s02)
    have v3 : PureS K (tVar 3) σ H2 (orM ms os) := pS_var (by rw [← hσ]; rfl) (hx.same s2)
    have v4 : PureS K (tVar 4) σ H2 (andM ms os) := pS_var (by rw [← hσ]; rfl) hy
    have nf := T.nfst
    have lop := or_len cb cc l3
    have lap := and_len (ms := os) (os := ps) l3
    have c1 := or_canon cb cc l3
    have c2 := and_canon (os := ps) cb l3
    have o01 := pS_or nf v0 v1 ca cb l1
    have a01 := pS_and nf v0 v1 ca cb l1
    refine if_no (pT_test (v1 := false) ?_) (Same.refl H2) fun H3 s3 => ?_
    · have e : ((withinB ms ps && withinB os ps) != withinB (orM ms os) ps) = false := by rw [within_or ca cb l1 l2.symm]; simp
      rw [← e]
      exact pB_ne (pB_and (pB_within v0 v2 ca l2) (pB_within v1 v2 cb l3)) (pB_within v3 v2 co (by omega))
    dsimp only [tNext]
    refine if_no (pT_test (v1 := false) ?_) s3 fun H4 s4 => ?_
    · have e : ((withinB ps ms && withinB ps os) != withinB ps (andM ms os)) = false := by rw [within_and ca cb l1 cc l2.symm]; simp
      rw [← e]
      exact pB_ne (pB_and (pB_within v2 v0 cc l2.symm) (pB_within v2 v1 cc l3.symm)) (pB_within v2 v4 cc (by omega))
    dsimp only [tNext]
    refine if_no (pT_or (v1 := false) (v2 := false) (pT_test ?_) (pT_test ?_)) s4 fun H5 s5 => ?_
    · have e : (!decide (orM (orM ms os) ps = orM ms (orM os ps))) = false := not_dec (or_assoc3 ca cb cc l1 l2)
      rw [← e]
      exact pB_neS T (pS_or nf o01 v2 co cc (by omega)) (pS_or nf v0 (pS_or nf v1 v2 cb cc l3) ca c1 (by omega))
    · have e : (!decide (andM (andM ms os) ps = andM ms (andM os ps))) = false := not_dec (and_assoc3 ca cb cc l1 l2)
      rw [← e]
      exact pB_neS T (pS_and nf a01 v2 cn cc (by omega)) (pS_and nf v0 (pS_and nf v1 v2 cb cc l3) ca c2 (by omega))
    dsimp only [tNext]
    refine pB_and (v1 := decide (orM ms (andM ms os) = ms)) (v2 := decide (andM ms (orM ms os) = ms)) (pB_eq T (pS_or nf v0 a01 ca cn (by omega)) v0) (pB_eq T (pS_and nf v0 o01 ca co (by omega)) v0) H5 _ s5 fun H6 s6 => ?_
    rw [decide_eq_true (or_and_self ca cb l1), decide_eq_true (and_or_self ca cb l1)]
    exact kk H6 (s02.trans (s5.trans s6))
end
end K03

set_option Elab.async false
set_option linter.all false
set_option maxRecDepth 100000
set_option maxHeartbeats 4000000
namespace K03
open PySem PySem.Spec PyProof.Rows L2 Lw
section
variable {P : Program} {w : World} {K : PySem.W.Frag} {mg : Str → Option Value} {base : Heap}
theorem stAt_keep {H H' : Hp} {q a : Addr} {xs : List V} {ms : List Nat} (h : H q = some (.lst xs)) (k : Keep q H H') (s : StAt K H a ms) : StAt K H' a ms := by
  obtain ⟨dx, t, e, r⟩ := s
  exact ⟨dx, t, k _ _ (fun z => by rw [z, h] at e; cases e) e, sqT_keep h k r⟩
theorem pT_b {σ : L2.St} {H0 : Hp} {v1 : Bool} {ta : TE} (a : PureB ta σ H0 v1) : PureT (tB ta) σ H0 v1 := fun H Q s k => a H _ s fun H' s' => ⟨v1, rfl, k H' s'⟩
theorem at3 (a b c : Addr) (j : Int) (h0 : -3 ≤ j) (h1 : j < 3) : ∃ x ∈ [a, b, c], atI [V.ref a, V.ref b, V.ref c] j = some (.ref x) := by
  have h : j = -3 ∨ j = -2 ∨ j = -1 ∨ j = 0 ∨ j = 1 ∨ j = 2 := by omega
  rcases h with rfl | rfl | rfl | rfl | rfl | rfl
  · exact ⟨a, by simp, rfl⟩
  · exact ⟨b, by simp, rfl⟩
  · exact ⟨c, by simp, rfl⟩
  · exact ⟨a, by simp, rfl⟩
  · exact ⟨b, by simp, rfl⟩
  · exact ⟨c, by simp, rfl⟩
theorem mk_go {H1 : Hp} {R : Hp → Prop} {t x dx : Addr} {ms : List Nat} (hs : SqT K H1 t (mv ms)) (c : Canon ms) (nx : H1 x = none) (ndx : H1 dx = none) (q : ∀ H' : Hp, Same H1 H' → StAt K H' x ms → R H') :
    spInit K (.ref x :: ([.ref t] ++ [])) (upd (upd H1 dx (.own x)) x (.ins (cS K) dx [])) (fun v H2 => v = .non ∧ R H2) E0 := by
  have k0 : Same H1 (L2.upd (L2.upd H1 dx (.own x)) x (.ins (cS K) dx [])) := fun b o e => by
    rw [upd_ne (ne_of_none e nx), upd_ne (ne_of_none e ndx)]
    exact e
  refine ⟨x, dx, t, ms, rfl, upd_same, sqT_same k0 hs, c, fun H' k1 k2 => ⟨rfl, ?_⟩⟩
  have k3 : Same H1 H' := fun b o e => k1 _ _ (ne_of_none e nx) (k0 _ _ e)
  exact q H' k3 ⟨dx, t, k2, sqT_same k3 hs⟩
/-- standings of one number of wires, drawn or listed -/
def Sts (K : PySem.W.Frag) (H : Hp) (c : Nat) (as : List Addr) : Prop := ∀ a ∈ as, ∃ ms, Canon ms ∧ ms.length = c ∧ StAt K H a ms
theorem Sts.same {H H' : Hp} {c : Nat} {as : List Addr} (h : Sts K H c as) (s : Same H H') : Sts K H' c as := fun a ha => by
  obtain ⟨ms, x, y, z⟩ := h a ha
  exact ⟨ms, x, y, z.same s⟩
theorem Sts.keep {H H' : Hp} {q : Addr} {xs : List V} {c : Nat} {as : List Addr} (s : Sts K H c as) (h : H q = some (.lst xs)) (k : Keep q H H') : Sts K H' c as := fun a ha => by
  obtain ⟨ms, x, y, z⟩ := s a ha
  exact ⟨ms, x, y, stAt_keep h k z⟩
theorem Sts.snoc {H : Hp} {c : Nat} {as : List Addr} {a : Addr} {ms : List Nat} (s : Sts K H c as) (cm : Canon ms) (l : ms.length = c) (h : StAt K H a ms) : Sts K H c (as ++ [a]) := fun b hb => by
  rcases List.mem_append.mp hb with hb | hb
  · exact s b hb
  · rw [List.mem_singleton.mp hb]
    exact ⟨ms, cm, l, h⟩
theorem Sts.upd {H : Hp} {l : Addr} {xs : List V} {o : HO} {c : Nat} {as : List Addr} (s : Sts K H c as) (h : H l = some (.lst xs)) : Sts K (upd H l o) c as :=
  s.keep h fun b _ n e => by rw [upd_ne n]; exact e
def spRight (K : PySem.W.Frag) : Sp := fun vs H Q _ => ∃ (q : Addr) (n : Nat), vs = [.ref q] ∧ PotAt H q n ∧ n < 80000 ∧ ∀ H', Keep q H H' → PotAt H' q (n + 20) → Q (.bl true) H'
theorem ok_Right {f : Addr} {fd : FuncData} (T : Txt K mg) (F : FnP K "_law_right" "_law_right" sRight f fd) (GTake : Pr P w K mg base 1 (ga K "_law_take") ["_law_pot_here", "_law_upto"] (spTake K)) (GDrawn : Pr P w K mg base 3 (ga K "_law_drawn_marks") ["_law_pot_here", "_law_count"] (spDrawn K))
    (GInit : Pr P w K mg base 3 (ma K (cS K) "__init__") ["self", "marks"] (spInit K)) (GBare : Pr P w K mg base 5 (He5.wf K (cS K) "staticmethod" "bare") ["wires"] (spBare K))
    (GOr : Pr P w K mg base 5 (ma K (cS K) "__or__") ["self", "other"] (spOr K)) (GAnd : Pr P w K mg base 5 (ma K (cS K) "__and__") ["self", "other"] (spAnd K))
    (GEq : Pr P w K mg base 1 (ma K (cS K) "__eq__") ["self", "other"] (spEq K)) (GWithin : Pr P w K mg base 4 (ma K (cS K) "within") ["self", "other"] (spWithin K))
    (GBounds : Pr P w K mg base 6 (ga K "_law_are_bounds_right") ["_law_one", "_law_other", "_law_third"] (spBounds K)) : Pr P w K mg base 7 f ["_law_pot_here"] (spRight K) := by
  refine .of (F.ok scRight (fun vs H Q E h => ?_) (fun cdv A outer s H vs Q E hr h => ⟨_, PSs.nox (pss_cons (ps_set (i := 1) scRight.nd rfl (Or.inr rfl) (pe_op op_add pe_int (pcl GTake (hr.mono (by decide)) rfl (T.gl "_law_take" (by decide +kernel)) (pa_cons (pv 0) (pa_cons pe_int pa_nil))))) (pss_cons (ps_setLc (i := 2) (own := [("_law_lap", 3)]) (g := gName 3) (tt := tYes) rfl scRight.nd rfl rfl (sw_true rfl rfl rfl (by decide +kernel)) (pi_range1 rfl (T.free _ (by decide +kernel)) (pa_cons pe_int pa_nil)) (blkOk_by (N := nRight) (sc := defScope sRight) (by decide +kernel)) (fun _ _ _ _ _ => (pg_name (i := 3) scRight.nd rfl (Or.inl rfl))) (fun _ _ _ _ _ => pts_nil) (fun _ _ _ _ _ => (pmk T.mkr GInit (hr.mono (by decide)) rfl T.gS (pa_cons (pcl GDrawn (hr.mono (by decide)) rfl (T.gl "_law_drawn_marks" (by decide +kernel)) (pa_cons (pv 0) (pa_cons (pv 1) pa_nil))) pa_nil)))) (pss_cons (ps_set (i := 4) scRight.nd rfl (Or.inl rfl) (pst T.sBare GBare (hr.mono (by decide)) rfl T.gS (pa_cons (pe_op op_sub (pv 1) pe_int) pa_nil))) (pss_cons (ps_if (PW.pt (pw_or (pt_not (pt_val (pmt (pv 4) T.cls (T.at_ "within" (by decide +kernel)) (T.fn "within" (by decide +kernel)) GWithin (hr.mono (by decide)) (pa_cons (pe_ix (ixL K) (pv 2) pe_int (fun _ _ => rfl)) pa_nil)))) (pw_or (pt_cmpR (opNe T.obj T.ne (T.at_ "__eq__" (by decide +kernel)) (T.fn "__eq__" (by decide +kernel)) GEq (hr.mono (by decide))) (pe_op (opB (op := .BitOr) T.orAt (T.fn "__or__" (by decide +kernel)) T.sf GOr (hr.mono (by decide))) (pe_ix (ixL K) (pv 2) pe_int (fun _ _ => rfl)) (pv 4)) (pe_ix (ixL K) (pv 2) pe_int (fun _ _ => rfl)) (nomark _)) (pw_or1 (pt_cmpR (opNe T.obj T.ne (T.at_ "__eq__" (by decide +kernel)) (T.fn "__eq__" (by decide +kernel)) GEq (hr.mono (by decide))) (pe_op (opB (op := .BitAnd) T.andAt (T.fn "__and__" (by decide +kernel)) T.sf GAnd (hr.mono (by decide))) (pe_ix (ixL K) (pv 2) pe_int (fun _ _ => rfl)) (pv 4)) (pv 4) (nomark _)))))) (pss_one (ps_ret pe_bl)) pss_nil) (pss_cons (ps_if (PW.pt (pw_and (pt_val (pmt (pe_ix (ixL K) (pv 2) pe_int (fun _ _ => rfl)) T.cls (T.at_ "within" (by decide +kernel)) (T.fn "within" (by decide +kernel)) GWithin (hr.mono (by decide)) (pa_cons (pe_ix (ixL K) (pv 2) pe_int (fun _ _ => rfl)) pa_nil))) (pw_and (pt_val (pmt (pe_ix (ixL K) (pv 2) pe_int (fun _ _ => rfl)) T.cls (T.at_ "within" (by decide +kernel)) (T.fn "within" (by decide +kernel)) GWithin (hr.mono (by decide)) (pa_cons (pe_ix (ixL K) (pv 2) pe_int (fun _ _ => rfl)) pa_nil))) (pw_and1 (pt_cmpR (opNe T.obj T.ne (T.at_ "__eq__" (by decide +kernel)) (T.fn "__eq__" (by decide +kernel)) GEq (hr.mono (by decide))) (pe_ix (ixL K) (pv 2) pe_int (fun _ _ => rfl)) (pe_ix (ixL K) (pv 2) pe_int (fun _ _ => rfl)) (nomark _)))))) (pss_one (ps_ret pe_bl)) pss_nil) (pss_cons (ps_for PassesOwn.never rfl (pi_range1 rfl (T.free _ (by decide +kernel)) (pa_cons pe_int pa_nil)) (pg_name (i := 5) scRight.nd rfl (Or.inl rfl)) (pss_one (ps_if (pt_not (pt_val (pcl GBounds (hr.mono (by decide)) rfl (T.gl "_law_are_bounds_right" (by decide +kernel)) (pa_cons (pe_ix (ixL K) (pv 2) (pv 5) (fun _ _ => rfl)) (pa_cons (pe_ix (ixL K) (pv 2) (pe_op op_sub (pv 5) pe_int) (fun _ _ => rfl)) (pa_cons (pe_ix (ixL K) (pv 2) (pe_op op_sub (pv 5) pe_int) (fun _ _ => rfl)) pa_nil)))))) (pss_one (ps_ret pe_bl)) pss_nil))) (pss_one (ps_ret pe_bl)))))))), ?_⟩)) (F.bindsN fun _ _ _ _ _ _ us hl => match us, hl with | [_], _ => rfl) F.kp
  · obtain ⟨q, n, rfl, _⟩ := h
    rfl
  · obtain ⟨q, n, rfl, hp, hn, kk⟩ := h
    have big := big_line
    refine seq_reads (set_reads ⟨_, rfl, q, 3, n, rfl, hp, by omega, by decide, by decide, fun d H1 k1 p1 d0 d1 => ⟨4, d, rfl, rfl, ?_⟩⟩)
    obtain ⟨c, hc, c4, c6⟩ : ∃ c : Nat, 4 + d = (c : Int) ∧ 4 ≤ c ∧ c ≤ 6 := ⟨(4 + d).toNat, by omega, by omega, by omega⟩
    dsimp only
    rw [hc]
    refine seq_reads (set_reads ⟨3, rfl, by decide, by decide, fun D hD => lc_range (lo := 0) (n := 3) (fun i H' => ∃ as : List Addr, H' D = some (.lst (as.map V.ref)) ∧ as.length = i ∧ Keep q H1 H' ∧ PotAt H' q (n + 1 + 6 * i) ∧ Sts K H' c as)
      ⟨[], upd_same, rfl, Keep.of (same_updN hD), p1.same (same_updN hD), fun a ha => by cases ha⟩ ?_ ?_⟩)
    · rintro i H2 hi ⟨as, hDs, la, k2, p2, ss⟩
      refine ⟨rfl, _, rfl, _, rfl, q, c, n + 1 + 6 * i, rfl, c6, p2, by omega, fun t ms H3 k3 p3 pm ht => ?_⟩
      intro x dx nx ndx ne
      refine mk_go (t := t) (ms := ms) ht (pm.canon (by omega) c6) nx ndx fun H4 s4 hx => ?_
      obtain ⟨_, _, _, e2, _⟩ := id p2
      have nDq : D ≠ q := fun z => by
        rw [z] at hD
        obtain ⟨_, _, _, e1, _⟩ := id p1
        rw [e1] at hD
        cases hD
      have hD4 : H4 D = some (.lst (as.map V.ref)) := s4 _ _ (k3 _ _ nDq hDs)
      have p4 := p3.same s4
      obtain ⟨_, _, _, e4, _⟩ := id p4
      refine ⟨_, hD4, by rw [List.length_map]; omega, as ++ [x], by rw [upd_same, List.map_append]; rfl, by rw [List.length_append, la]; rfl, fun b o nb e => ?_, ?_, ?_⟩
      · have nbD : b ≠ D := fun z => by rw [z, hD] at e; cases e
        rw [upd_ne nbD]
        exact s4 _ _ (k3 _ _ nb (k2 _ _ nb e))
      · obtain ⟨o', m', k', e5, r5⟩ := p4.mono (n' := n + 1 + 6 * (i + 1)) (by omega)
        exact ⟨o', m', k', by rw [upd_ne (Ne.symm nDq)]; exact e5, r5⟩
      · exact ((((ss.keep e2 k3).same s4).snoc (pm.canon (by omega) c6) pm.len hx)).upd hD4
    · rintro H2 ⟨as, hDs, la, k2, p2, ss⟩
      have nDq : D ≠ q := fun z => by
        rw [z] at hD
        obtain ⟨_, _, _, e1, _⟩ := id p1
        rw [e1] at hD
        cases hD
      match as, la with
      | [a0, a1, a2], _ =>
      obtain ⟨m0, c0, l0, t0⟩ := ss a0 (by simp)
      obtain ⟨m1, c1, l1, t1⟩ := ss a1 (by simp)
      obtain ⟨m2, c2, l2, t2⟩ := ss a2 (by simp)
      dsimp only
      refine seq_reads (set_reads ⟨_, rfl, _, 2, rfl, rfl, c - 2, (by have e : ((c : Int) - 2) = ((c - 2 : Nat) : Int) := (by omega); show [V.int ((c : Int) - 2)] = _; rw [e]), by omega, by omega, fun b H3 s3 nb tb => ?_⟩)
      dsimp only
      have ec : c - 2 + 2 = c := by omega
      rw [ec] at tb
      have hD3 : H3 D = some (.lst ([V.ref a0, V.ref a1, V.ref a2])) := s3 _ _ hDs
      generalize hσ : (((L2.start nRight [V.ref q]).set 1 (some (V.int (c : Nat)))).set 2 (some (V.ref D))).set 4 (some (V.ref b)) = σ
      have i0 : PureS K (tOp (rIxL K) (tVar 2) (tC (.int 0))) σ H3 m0 := pS_ix (by rw [← hσ]; rfl) (SqL.of hD3) (atI_nat (j := 0) rfl) (t0.same s3)
      have i1 : PureS K (tOp (rIxL K) (tVar 2) (tC (.int 1))) σ H3 m1 := pS_ix (by rw [← hσ]; rfl) (SqL.of hD3) (atI_nat (j := 1) rfl) (t1.same s3)
      have vb : PureS K (tVar 4) σ H3 (List.range c) := pS_var (by rw [← hσ]; rfl) tb
      have cb := bare_canon (n := c) (by omega) c6
      have lb : (List.range c).length = c := List.length_range
      have nf := T.nfst
      refine if_no (pT_or (v1 := false) (v2 := false) (pT_not (v1 := true) (pT_b ?_)) (pT_or (v1 := false) (v2 := false) (pT_test ?_) (pT_test ?_))) (Same.refl H3) fun H4 s4 => ?_
      · have e : withinB (List.range c) m0 = true := within_iff.mpr bare_le
        rw [← e]
        exact pB_within vb i0 cb (by omega)
      · have e : (!decide (orM m1 (List.range c) = m1)) = false := not_dec (by rw [← l1]; exact or_bare c1)
        rw [← e]
        exact pB_neS T (pS_or nf i1 vb c1 cb (by omega)) i1
      · have e : (!decide (andM m1 (List.range c) = List.range c)) = false := not_dec (by rw [← l1]; exact and_bare c1)
        rw [← e]
        exact pB_neS T (pS_and nf i1 vb c1 cb (by omega)) vb
      dsimp only [tNext]
      refine if_no ?_ s4 fun H5 s5 => ?_
      · have e : (withinB m0 m1 && (withinB m1 m0 && !decide (m0 = m1))) = false := by
          rw [Bool.eq_false_iff]
          intro z
          simp only [Bool.and_eq_true, within_iff, Bool.not_eq_true', decide_eq_false_iff_not] at z
          exact z.2.2 (le_antisymm c0 c1 (by omega) z.1 z.2.1)
        rw [← e]
        exact pT_and (pT_b (pB_within i0 i1 c0 (by omega))) (pT_and (pT_b (pB_within i1 i0 c1 (by omega))) (pT_test (pB_neS T i0 i1)))
      dsimp only [tNext]
      have ss3 : Sts K H3 c [a0, a1, a2] := ss.same s3
      refine seq_reads ⟨3, rfl, by decide, by decide, for_range (lo := 0) (n := 3) (fun i σ' H' => ∃ z3 z5 : Option V, σ' = [some (.ref q), some (.int (c : Nat)), some (.ref D), z3, some (.ref b), z5] ∧ Same H3 H') ⟨none, none, hσ.symm, s5⟩ ?_ ?_⟩
      · rintro i σ' H6 hi ⟨z3, z5, rfl, s6⟩
        obtain ⟨x0, hx0, ex0⟩ := at3 a0 a1 a2 (0 + (i : Int)) (by omega) (by omega)
        obtain ⟨x1, hx1, ex1⟩ := at3 a0 a1 a2 (0 + (i : Int) - 1) (by omega) (by omega)
        obtain ⟨x2, hx2, ex2⟩ := at3 a0 a1 a2 (0 + (i : Int) - 2) (by omega) (by omega)
        obtain ⟨n0, k0, r0, u0⟩ := ss3 x0 hx0
        obtain ⟨n1, k1', r1, u1⟩ := ss3 x1 hx1
        obtain ⟨n2, k2', r2, u2⟩ := ss3 x2 hx2
        dsimp only [gName]
        have hD6 := SqL.of (K := K) (s6 _ _ hD3)
        refine ⟨_, rfl, _, rfl, D, _, _, _, rfl, rfl, hD6, ex0, _, rfl, _, rfl, _, 1, rfl, rfl, D, _, _, _, rfl, rfl, hD6, ex1, _, rfl, _, rfl, _, 2, rfl, rfl, D, _, _, _, rfl, rfl, hD6, ex2, x0, x1, x2, n0, n1, n2, rfl, u0.same s6, u1.same s6, u2.same s6, k0, k1', k2', by omega, by omega, fun H7 s7 => ⟨true, rfl, iteF ?_⟩⟩
        exact ⟨z3, _, rfl, s6.trans s7⟩
      · rintro σ' H6 ⟨z3, z5, rfl, s6⟩
        exact kk H6 (k1.trans (k2.trans (Keep.of (s3.trans s6)))) ((p2.mono (by omega)).same (s3.trans s6))
end
end K03

set_option Elab.async false
set_option linter.all false
set_option maxRecDepth 100000
set_option maxHeartbeats 4000000
namespace K03
open PySem PySem.Spec PyProof.Rows L2 Lw
section
variable {P : Program} {w : World} {K : PySem.W.Frag} {mg : Str → Option Value} {base : Heap}
theorem keep_same {H H1 H2 : Hp} {q : Addr} (n : H q = none) (s : Same H H1) (k : Keep q H1 H2) : Same H H2 := fun b o e => k b o (fun z => by rw [z, n] at e; cases e) (s b o e)
def spLaw (K : PySem.W.Frag) : Sp := fun vs H Q _ => ∃ (a : Addr) (ns : List Int), vs = [.ref a] ∧ SqL K H a (ns.map V.int) ∧ ∀ H', Q (.bl true) H'
theorem ok_Law {f : Addr} {fd : FuncData} (T : Txt K mg) (F : FnP K "law" "law" sLaw f fd) (GAllM : Pr P w K mg base 1 (ga K "_law_all_marks") ["_law_count"] (spAllM K)) (GInit : Pr P w K mg base 3 (ma K (cS K) "__init__") ["self", "marks"] (spInit K))
    (GBounds : Pr P w K mg base 6 (ga K "_law_are_bounds_right") ["_law_one", "_law_other", "_law_third"] (spBounds K)) (GCells : Pr P w K mg base 1 (ga K "_law_cells") ["_law_script", "_law_limit"] (spCells K))
    (GPot : Pr P w K mg base 1 (ga K "_law_pot") ["_law_script", "_law_place"] (spPot K)) (GRight : Pr P w K mg base 7 (ga K "_law_right") ["_law_pot_here"] (spRight K)) : FnOk P w K mg base CX0 8 f fd ["_law_script"] (spLaw K) := by
  refine F.ok scLaw (fun vs H Q E h => ?_) (fun cdv A outer s H vs Q E hr h => ⟨_, PSs.nox (pss_cons (ps_setLc (i := 1) (own := [("_law_marks", 2)]) (g := gName 2) (tt := tYes) rfl scLaw.nd rfl rfl (sw_true rfl rfl rfl (by decide +kernel)) (pi_list (pcl GAllM (hr.mono (by decide)) rfl (T.gl "_law_all_marks" (by decide +kernel)) (pa_cons pe_int pa_nil))) (blkOk_by (N := nLaw) (sc := defScope sLaw) (by decide +kernel)) (fun _ _ _ _ _ => (pg_name (i := 2) scLaw.nd rfl (Or.inl rfl))) (fun _ _ _ _ _ => pts_nil) (fun _ _ _ _ _ => (pmk T.mkr GInit (hr.mono (by decide)) rfl T.gS (pa_cons (pv 2) pa_nil)))) (pss_cons (ps_for PassesOwn.never rfl (pi_list (pv 1)) (pg_name (i := 3) scLaw.nd rfl (Or.inr rfl)) (pss_one (ps_for PassesOwn.never rfl (pi_list (pv 1)) (pg_name (i := 4) scLaw.nd rfl (Or.inr rfl)) (pss_one (ps_if (pt_not (pt_val (pe_callB (cr_all rfl) rfl (T.free _ (by decide +kernel)) (by decide +kernel) (pa_cons (pe_lc (own := [("_law_third", 5)]) (g := gName 5) (tt := tYes) rfl scLaw.nd (pi_list (pv 1)) (blkOk_by (N := nLaw) (sc := defScope sLaw) (by decide +kernel)) (fun _ _ _ _ _ => (pg_name (i := 5) scLaw.nd rfl (Or.inl rfl))) (fun _ _ _ _ _ => pts_nil) (fun _ _ _ _ _ => (pcl GBounds (hr.mono (by decide)) rfl (T.gl "_law_are_bounds_right" (by decide +kernel)) (pa_cons (pv 3) (pa_cons (pv 4) (pa_cons (pv 5) pa_nil)))))) pa_nil)))) (pss_one (ps_ret pe_bl)) pss_nil))))) (pss_cons (ps_for PassesOwn.never rfl (pi_list (pcl GCells (hr.mono (by decide)) rfl (T.gl "_law_cells" (by decide +kernel)) (pa_cons (pv 0) (pa_cons pe_int pa_nil)))) (pg_name (i := 6) scLaw.nd rfl (Or.inl rfl)) (pss_cons (ps_set (i := 7) scLaw.nd rfl (Or.inr rfl) (pcl GPot (hr.mono (by decide)) rfl (T.gl "_law_pot" (by decide +kernel)) (pa_cons (pv 0) (pa_cons (pv 6) pa_nil)))) (pss_one (ps_if (pt_not (pt_val (pe_callB (cr_all rfl) rfl (T.free _ (by decide +kernel)) (by decide +kernel) (pa_cons (pe_lc (own := [("_law_lap", 8)]) (g := gName 8) (tt := tYes) rfl scLaw.nd (pi_range1 rfl (T.free _ (by decide +kernel)) (pa_cons pe_int pa_nil)) (blkOk_by (N := nLaw) (sc := defScope sLaw) (by decide +kernel)) (fun _ _ _ _ _ => (pg_name (i := 8) scLaw.nd rfl (Or.inl rfl))) (fun _ _ _ _ _ => pts_nil) (fun _ _ _ _ _ => (pcl GRight (hr.mono (by decide)) rfl (T.gl "_law_right" (by decide +kernel)) (pa_cons (pv 7) pa_nil)))) pa_nil)))) (pss_one (ps_ret pe_bl)) pss_nil)))) (pss_one (ps_ret pe_bl))))), ?_⟩)
  · obtain ⟨a, ns, rfl, _⟩ := h
    rfl
  · obtain ⟨a, ns, rfl, hs, kk⟩ := h
    have big := big_line
    refine seq_reads (set_reads ⟨3, rfl, by decide, fun l Ts H1 s1 hl lT aT => ⟨l, rfl, ⟨_, SqL.of hl⟩, fun D hD => lc_list (K := K) (a := l) (xs := Ts.map V.ref) (fun i H' => ∃ as : List Addr, H' D = some (.lst (as.map V.ref)) ∧ as.length = i ∧ Same H1 H' ∧ Sts K H' 3 as)
      ⟨[], upd_same, rfl, same_updN hD, fun a ha => (by cases ha)⟩ (fun i H' _ ⟨_, _, _, s', _⟩ => SqL.of (s' _ _ hl)) ?_ ?_⟩⟩)
    · rintro i x H2 hx ⟨as, hDs, la, s2, ss⟩
      rw [List.getElem?_map] at hx
      obtain ⟨T1, hT1, rfl⟩ := Option.map_eq_some_iff.mp hx
      have hi : i < Ts.length := (List.getElem?_eq_some_iff.mp hT1).1
      obtain ⟨ms, pm, ht⟩ := aT T1 (List.mem_of_getElem? hT1)
      refine ⟨rfl, _, rfl, ?_⟩
      intro x dx nx ndx ne
      refine mk_go (t := T1) (ms := ms) (sqT_same s2 ht) (pm.canon (by decide) (by decide)) nx ndx fun H4 s4 hx => ?_
      have hD4 := s4 _ _ hDs
      refine ⟨_, hD4, by rw [List.length_map]; omega, as ++ [x], by rw [upd_same, List.map_append]; rfl, by rw [List.length_append, la]; rfl, fun b o e => ?_, ((ss.same s4).snoc (pm.canon (by decide) (by decide)) pm.len hx).upd hD4⟩
      rw [upd_ne (ne_of_none e hD)]
      exact s4 _ _ (s2 _ _ e)
    · rintro H2 ⟨es, hE, le, s2, ss⟩
      dsimp only
      have hs2 : SqL K H2 a (ns.map V.int) := (s1.trans s2).seq hs
      have le6 : es.length ≤ 6 := by rw [List.length_map] at le; omega
      refine seq_reads ⟨_, rfl, D, rfl, ⟨_, SqL.of hE⟩, for_list (K := K) (a := D) (xs := es.map V.ref) (fun i σ H' => ∃ z2 z3 z4 z5 z6 z7 z8 : Option V, σ = [some (.ref a), some (.ref D), z2, z3, z4, z5, z6, z7, z8] ∧ Same H2 H') ⟨_, _, _, _, _, _, _, rfl, Same.refl _⟩ (fun i σ H' _ ⟨_, _, _, _, _, _, _, _, s'⟩ => SqL.of (s' _ _ hE)) ?_ ?_⟩
      · rintro i x σ H3 hx ⟨z2, z3, z4, z5, z6, z7, z8, rfl, s3⟩
        obtain ⟨o1, ho1, rfl⟩ := List.mem_map.mp (List.mem_of_getElem? hx)
        obtain ⟨m1, c1, l1, t1⟩ := ss o1 ho1
        dsimp only [gName]
        refine ⟨_, rfl, D, rfl, ⟨_, SqL.of (s3 _ _ hE)⟩, for_list (K := K) (a := D) (xs := es.map V.ref) (fun i σ H' => ∃ z2 z4 z5 z6 z7 z8 : Option V, σ = [some (.ref a), some (.ref D), z2, some (.ref o1), z4, z5, z6, z7, z8] ∧ Same H2 H') ⟨_, _, _, _, _, _, rfl, s3⟩ (fun i σ H' _ ⟨_, _, _, _, _, _, _, s'⟩ => SqL.of (s' _ _ hE)) ?_ ?_⟩
        · rintro j y σ H4 hy ⟨z2, z4, z5, z6, z7, z8, rfl, s4⟩
          obtain ⟨o2, ho2, rfl⟩ := List.mem_map.mp (List.mem_of_getElem? hy)
          obtain ⟨m2, c2, l2, t2⟩ := ss o2 ho2
          dsimp only [gName]
          refine ⟨_, rfl, D, rfl, ⟨_, SqL.of (s4 _ _ hE)⟩, fun G hG => lc_list (K := K) (a := D) (xs := es.map V.ref) (fun k H' => H' G = some (.lst (List.replicate k (V.bl true))) ∧ Same H4 H') ⟨upd_same, same_updN hG⟩ (fun k H' _ z => SqL.of (z.2 _ _ (s4 _ _ hE))) ?_ ?_⟩
          · rintro k x H5 hx ⟨hG5, s5⟩
            have hk : k < es.length := by
              have e := (List.getElem?_eq_some_iff.mp hx).1
              rwa [List.length_map] at e
            obtain ⟨o3, ho3, rfl⟩ := List.mem_map.mp (List.mem_of_getElem? hx)
            obtain ⟨m3, c3, l3, t3⟩ := ss o3 ho3
            have s25 := s4.trans s5
            refine ⟨rfl, _, rfl, _, rfl, _, rfl, o1, o2, o3, m1, m2, m3, rfl, t1.same s25, t2.same s25, t3.same s25, c1, c2, c3, by omega, by omega, fun H6 s6 => ⟨_, s6 _ _ hG5, by rw [List.length_replicate]; omega, ?_, fun b o e => ?_⟩⟩
            · rw [upd_same, List.replicate_succ']
            · rw [upd_ne (ne_of_none e hG)]
              exact s6 _ _ (s5 _ _ e)
          · rintro H5 ⟨hG5, s5⟩
            refine ⟨G, List.replicate (es.map V.ref).length true, rfl, SqL.of (by rw [hG5, List.map_replicate]), true, ?_, iteF ?_⟩
            · have e : (List.replicate (es.map V.ref).length true).all id = true := by simp
              rw [e]
            · exact ⟨_, _, _, _, _, _, rfl, s4.trans s5⟩
        · rintro σ H4 ⟨z2, z4, z5, z6, z7, z8, rfl, s4⟩
          exact ⟨_, _, _, _, _, _, _, rfl, s4⟩
      · rintro σ H3 ⟨z2, z3, z4, z5, z6, z7, z8, rfl, s3⟩
        dsimp only
        refine seq_reads ⟨_, rfl, a, ns, 4, rfl, s3.seq hs2, by decide, by decide, fun lc cc H4 s4 hc hlc => ⟨lc, rfl, ⟨_, SqL.of hlc⟩, for_list (K := K) (a := lc) (xs := mv (List.range cc)) (fun i σ H' => ∃ z2 z3 z4 z5 z6 z7 z8 : Option V, σ = [some (.ref a), some (.ref D), z2, z3, z4, z5, z6, z7, z8] ∧ Same H4 H') ⟨_, _, _, _, _, _, _, rfl, Same.refl _⟩ (fun i σ H' _ ⟨_, _, _, _, _, _, _, _, s'⟩ => SqL.of (s' _ _ hlc)) ?_ ?_⟩⟩
        · rintro i x σ H5 hx ⟨z2, z3, z4, z5, z6, z7, z8, rfl, s5⟩
          obtain ⟨p, hp, rfl⟩ := List.mem_map.mp (List.mem_of_getElem? hx)
          have hp := List.mem_range.mp hp
          dsimp only [gName]
          refine seq_reads (set_reads ⟨_, rfl, _, rfl, a, ns, p, rfl, (s3.trans (s4.trans s5)).seq hs2, by omega, fun q H6 s6 nq p6 => ?_⟩)
          dsimp only
          refine ⟨6, rfl, by decide, by decide, fun G hG => lc_range (lo := 0) (n := 6) (fun k H' => H' G = some (.lst (List.replicate k (V.bl true))) ∧ Same H5 H' ∧ PotAt H' q (20 * k) ∧ Same (upd H6 G (.lst [])) (upd H6 G (.lst [])) ∧ (∀ b o, b ≠ q → b ≠ G → H6 b = some o → H' b = some o)) ⟨upd_same, s6.trans (same_updN hG), p6.same (same_updN hG), Same.refl _, fun b o n1 n2 e => by rw [upd_ne n2]; exact e⟩ ?_ ?_⟩
          · rintro k H7 hk ⟨hG7, s7, p7, _, k7⟩
            have nGq : G ≠ q := fun z => by
              rw [z] at hG
              obtain ⟨_, _, _, e, _⟩ := id p6
              rw [e] at hG
              cases hG
            refine ⟨rfl, _, rfl, q, 20 * k, rfl, p7, by omega, fun H8 k8 p8 => ⟨_, k8 _ _ nGq hG7, by rw [List.length_replicate]; omega, ?_, fun b o e => ?_, ?_, Same.refl _, fun b o n1 n2 e => ?_⟩⟩
            · rw [upd_same, List.replicate_succ']
            · have nbG : b ≠ G := fun z => by
                have e6 := s6 _ _ e
                rw [z, hG] at e6
                cases e6
              rw [upd_ne nbG]
              exact keep_same nq s7 k8 _ _ e
            · obtain ⟨o', m', k', e5, r5⟩ := p8.mono (n' := 20 * (k + 1)) (by omega)
              exact ⟨o', m', k', by rw [upd_ne (Ne.symm nGq)]; exact e5, r5⟩
            · rw [upd_ne n2]
              exact k8 _ _ n1 (k7 _ _ n1 n2 e)
          · rintro H7 ⟨hG7, s7, _⟩
            refine ⟨G, List.replicate 6 true, rfl, SqL.of hG7, true, rfl, iteF ?_⟩
            exact ⟨_, _, _, _, _, _, _, rfl, s5.trans s7⟩
        · rintro σ H5 ⟨z2, z3, z4, z5, z6, z7, z8, rfl, s5⟩
          exact kk H5
end
end K03

set_option Elab.async false
set_option linter.all false
set_option maxRecDepth 100000
set_option maxHeartbeats 0
namespace K03
open PySem PySem.Spec PyProof.Rows L2 Lw
def gloB (K : PySem.W.Frag) (x : Str) : Bool := He.eqO (PySem.W.nsIn K mainGlobals x) (some (some (.ref (ga K x))))
def five : List Str := ["within", "__contains__", "__or__", "__and__", "__eq__"]
def chk (K : PySem.W.Frag) : Bool := (frees.all fun x => He.eqO (PySem.W.nsIn K mainGlobals x) (some none)) && ((globals.all fun x => gloB K x) && (gloB K "Standing" && (He.Fa.ok K (.int "LEAST_WIRES" 1) && (He.Fa.ok K (.int "MOST_WIRES" 4) && (He.Fa.ok K (.cls "Standing") &&
  (He.Fa.ok K (.noat "Standing" "_marks") && (He.Fa.ok K (.mkr "Standing") && (propB K (cS K) "marks" && (propB K (cS K) "wires" && (statB K (cS K) "bare" && ((five.all fun m => He.eqO (PySem.W.findIn K (.ref (cS K)) m) (some (some (.ref (ma K (cS K) m)))) && PySem.W.isFn K (.ref (ma K (cS K) m))) &&
  (PySem.W.selfFirst K (cS K) && (decide (PySem.W.mroIn K (cS K) (.type "object") = some true) && (He.eqO (PySem.W.findIn K (.ref (cS K)) "__ne__") (some (some (.builtin "object.__ne__"))) && (PySem.W.notFirst K (cS K) (.ref (cS K)) && (decide (PySem.W.kitOne K (.ref (cS K)) (.ref (cS K)) = some true) &&
  (He.eqO (PySem.W.findIn K (.ref (cS K)) "__class__") (some (some (.builtin "object.__class__"))) && (He.eqO (PySem.W.specialIn K (.builtin "object.__class__") "__get__") (some (some (.builtin "getset_descriptor.__get__"))) && decide (PySem.W.takesIn K (.builtin "object.__class__") = some true)))))))))))))))))))
def gd_ (x : String) (st : Stmt) : He5.DefA := ⟨fun K => ga K x, x, x, defArgs st, defBody st, defScope st, [], []⟩
def md_ (m q : String) (st : Stmt) : He5.DefA := ⟨fun K => ma K (cS K) m, m, q, defArgs st, defBody st, defScope st, [], []⟩
def wd_ (T m q : String) (st : Stmt) : He5.DefA := ⟨fun K => He5.wf K (cS K) T m, m, q, defArgs st, defBody st, defScope st, [], []⟩
def fn : List He5.DefA := [gd_ "is_int" sIsInt, gd_ "are_marks" sAreM, gd_ "merged" sMrg, gd_ "check_wires" sChk, md_ "__init__" "Standing.__init__" sInit, wd_ "property" "marks" "Standing.marks" sMarks, wd_ "property" "wires" "Standing.wires" sWires,
  wd_ "staticmethod" "bare" "Standing.bare" sBare, md_ "within" "Standing.within" sWithin, md_ "__contains__" "Standing.__contains__" sCont, md_ "__or__" "Standing.__or__" sOr, md_ "__and__" "Standing.__and__" sAnd, md_ "__eq__" "Standing.__eq__" sEq,
  gd_ "_law_pot" sPot, gd_ "_law_take" sTake, gd_ "_law_of" sOf, gd_ "_law_cells" sCells, gd_ "_law_all_marks" sAllM, gd_ "_law_drawn_marks" sDrawn, gd_ "_law_are_bounds_right" sBounds, gd_ "_law_right" sRight, gd_ "law" sLaw]
def loose : List Str := ["_wall", "WireError", "BadMarks", "BadWires", "OtherWires", "is_int", "LEAST_WIRES", "MOST_WIRES", "Standing", "are_marks", "check_wires", "merged", "_law_pot", "_law_take", "_law_of", "_law_cells", "_law_all_marks", "_law_drawn_marks", "_law_are_bounds_right", "_law_right"]
abbrev R : PySem.W.OpenRow := PySem.W.OpenLaw.row PySem.Challenge.rw_landingwires_k03_whole_standings_least_a
abbrev hk : PySem.W.Hook := hookC 6 chk fn
def ob (s : PySem.W.SharedT) : He.AlD := obsCG 6 chk fn (HandSHeadRun.getT s)
theorem ob_eq (s : PySem.W.SharedT) : ob s = hk.obs s.abs := obsCG_eq (HandSHeadRun.getT_eq s)
theorem run (w : World) : HandSHeadRun.RunEq R (PySem.W.view R.prog [24]) hk ob 8000 loose w := by
  intro os
  kernel_rfl
theorem txt_of {K : PySem.W.Frag} {h : Heap} {mg : Str → Option Value} (X : K.In h) (G : h.Ns mainGlobals mg) (c : chk K = true) : Txt K mg := by
  unfold chk at c
  obtain ⟨c1, c⟩ := He.ba c
  obtain ⟨c2, c⟩ := He.ba c
  obtain ⟨c3, c⟩ := He.ba c
  obtain ⟨c4, c⟩ := He.ba c
  obtain ⟨c5, c⟩ := He.ba c
  obtain ⟨c6, c⟩ := He.ba c
  obtain ⟨c7, c⟩ := He.ba c
  obtain ⟨c8, c⟩ := He.ba c
  obtain ⟨c9, c⟩ := He.ba c
  obtain ⟨c10, c⟩ := He.ba c
  obtain ⟨c11, c⟩ := He.ba c
  obtain ⟨c12, c⟩ := He.ba c
  obtain ⟨c13, c⟩ := He.ba c
  obtain ⟨c14, c⟩ := He.ba c
  obtain ⟨c15, c⟩ := He.ba c
  obtain ⟨c16, c⟩ := He.ba c
  obtain ⟨c17, c⟩ := He.ba c
  obtain ⟨c18, c⟩ := He.ba c
  obtain ⟨c19, c20⟩ := He.ba c
  refine { free := fun x hx => ?_, gl := fun x hx => ?_, gS := ?_, nums := fun x i hx => ?_, cls := He.cls_ok c6, nof := He.noat_ok c7, mkr := He.mkr_ok c8, pMarks := propB_ok c9, pWires := propB_ok c10, sBare := statB_ok c11, at_ := fun m hm => ?_, fn := fun m hm => ?_, sf := c13, obj := of_decide_eq_true c14, ne := He.eqO_ok c15, nfst := c16, kit := of_decide_eq_true c17, ca := He.eqO_ok c18, cg := He.eqO_ok c19, ct := of_decide_eq_true c20 }
  · exact PySem.W.mg_none_of X G (He.eqO_ok (List.all_eq_true.mp c1 x hx))
  · exact PySem.W.mg_of X G (He.eqO_ok (List.all_eq_true.mp c2 x hx))
  · exact PySem.W.mg_of X G (He.eqO_ok c3)
  · rcases List.mem_cons.mp hx with e | hx
    · cases e
      exact He.int_ok X G c4
    · cases List.mem_singleton.mp hx
      exact He.int_ok X G c5
  · exact He.eqO_ok (He.ba (List.all_eq_true.mp c12 m hm)).1
  · exact (He.ba (List.all_eq_true.mp c12 m hm)).2
theorem facts {P : Program} {w : World} {K : PySem.W.Frag} {h : Heap} {mg : Str → Option Value} {f : Addr} (X : K.In h) (G : h.Ns mainGlobals mg) (hfa : mg ("law" : Str) = some (.ref f)) (c : SaysC chk fn K) :
    ∃ fd : FuncData, (∀ (s : Shared) (v : Value), BindsTo s fd ⟨[v], []⟩ [("_law_script", v)]) ∧ ∀ base : Heap, K.In base → base.Ns mainGlobals mg → FnG P w K mg base CX0 8 f fd ["_law_script"] (spLaw K) := by
  have T := txt_of X G c.chk
  obtain ⟨_, F0⟩ := c.def_ 0 (d := gd_ "is_int" sIsInt) rfl
  obtain ⟨_, F1⟩ := c.def_ 1 (d := gd_ "are_marks" sAreM) rfl
  obtain ⟨_, F2⟩ := c.def_ 2 (d := gd_ "merged" sMrg) rfl
  obtain ⟨_, F3⟩ := c.def_ 3 (d := gd_ "check_wires" sChk) rfl
  obtain ⟨_, F4⟩ := c.def_ 4 (d := md_ "__init__" "Standing.__init__" sInit) rfl
  obtain ⟨_, F5⟩ := c.def_ 5 (d := wd_ "property" "marks" "Standing.marks" sMarks) rfl
  obtain ⟨_, F6⟩ := c.def_ 6 (d := wd_ "property" "wires" "Standing.wires" sWires) rfl
  obtain ⟨_, F7⟩ := c.def_ 7 (d := wd_ "staticmethod" "bare" "Standing.bare" sBare) rfl
  obtain ⟨_, F8⟩ := c.def_ 8 (d := md_ "within" "Standing.within" sWithin) rfl
  obtain ⟨_, F9⟩ := c.def_ 9 (d := md_ "__contains__" "Standing.__contains__" sCont) rfl
  obtain ⟨_, F10⟩ := c.def_ 10 (d := md_ "__or__" "Standing.__or__" sOr) rfl
  obtain ⟨_, F11⟩ := c.def_ 11 (d := md_ "__and__" "Standing.__and__" sAnd) rfl
  obtain ⟨_, F12⟩ := c.def_ 12 (d := md_ "__eq__" "Standing.__eq__" sEq) rfl
  obtain ⟨_, F13⟩ := c.def_ 13 (d := gd_ "_law_pot" sPot) rfl
  obtain ⟨_, F14⟩ := c.def_ 14 (d := gd_ "_law_take" sTake) rfl
  obtain ⟨_, F15⟩ := c.def_ 15 (d := gd_ "_law_of" sOf) rfl
  obtain ⟨_, F16⟩ := c.def_ 16 (d := gd_ "_law_cells" sCells) rfl
  obtain ⟨_, F17⟩ := c.def_ 17 (d := gd_ "_law_all_marks" sAllM) rfl
  obtain ⟨_, F18⟩ := c.def_ 18 (d := gd_ "_law_drawn_marks" sDrawn) rfl
  obtain ⟨_, F19⟩ := c.def_ 19 (d := gd_ "_law_are_bounds_right" sBounds) rfl
  obtain ⟨_, F20⟩ := c.def_ 20 (d := gd_ "_law_right" sRight) rfl
  obtain ⟨fd, F21⟩ := c.def_ 21 (d := gd_ "law" sLaw) rfl
  have e := hfa.symm.trans (T.gl "law" (by decide +kernel))
  cases e
  have b := FunD.bindsA (ps := ["_law_script"]) F21 fun _ _ _ _ _ _ us hl => match us, hl with | [_], _ => rfl
  refine ⟨fd, fun s v => b s [v] rfl, fun base _ _ => .of ?_⟩
  have G0 := ok_IsInt (P := P) (w := w) (base := base) T F0
  have G1 := ok_AreM T F1 G0
  have G2 := ok_Mrg (P := P) (w := w) (base := base) T F2
  have G5 := ok_Marks (P := P) (w := w) (base := base) T F5
  have G6 := ok_Wires (P := P) (w := w) (base := base) T F6
  have G3 := ok_Chk T F3 G6
  have G4 := ok_Init T F4 G1
  have G7 := ok_Bare T F7 G0 G4
  have G9 := ok_Cont T F9 G0
  have G8 := ok_Within T F8 G3 G9
  have G10 := ok_Or T F10 G3 G5 G2 G4
  have G11 := ok_And T F11 G3 G5 G4
  have G12 := ok_Eq (P := P) (w := w) (base := base) T F12
  have G13 := ok_Pot (P := P) (w := w) (base := base) T F13
  have G14 := ok_Take (P := P) (w := w) (base := base) T F14
  have G15 := ok_Of T F15 G14
  have G16 := ok_Cells (P := P) (w := w) (base := base) T F16
  have G17 := ok_AllM (P := P) (w := w) (base := base) T F17
  have G18 := ok_Drawn T F18 G15
  have G19 := ok_Bounds T F19 G10 G11 G12 G8
  have G20 := ok_Right T F20 G14 G18 G4 G7 G10 G11 G12 G8 G19
  exact ok_Law T F21 G17 G4 G19 G16 G13 G20
end K03
open PySem PySem.W PySem.Calls PyProof.Rows
theorem PySem.Challenge.cw_landingwires_k03_whole_standings_least_a_holds : PySem.Challenge.rw_landingwires_k03_whole_standings_least_a.Holds := by
  w_on; o_law
  refine HandSHeadRun.head_any (r := K03.R) (q := view K03.R.prog [24]) (H := K03.hk) (ob := K03.ob) (M := 8000) (loose := K03.loose) (d := HandSHeadRun.topDef K03.R.prog 24) (kwd := []) K03.ob_eq
    (by kernel_rfl) (fun s => by kernel_rfl) K03.run (by kernel_rfl) (by kernel_rfl) (by kernel_rfl) (by rfl) (by first | assumption | decide +kernel) (by decide +kernel) ⟨rfl, rfl, rfl, rfl, rfl, by decide +kernel⟩ ?hw ?hc
  case hw => w_witness2
  case hc =>
    refine Lw.walkG (l := PySem.Challenge.rw_landingwires_k03_whole_standings_least_a) (n := 63) (k := 8) (x := "_law_script") (CX := L2.CX0) rfl (by decide) (by kernel_rfl) ⟨rfl, by decide, by decide⟩ ?F (fun _ _ _ _ z => z)
    intro w mg fa h Y G hmg0
    obtain ⟨K, KX, c⟩ := Y
    have hmg : mg ("law" : PySem.Str) = some (.ref fa) := by
      have e : (HandSHeadRun.topDef K03.R.prog 24).name = ("law" : PySem.Str) := by kernel_rfl
      rw [← e]
      exact hmg0
    obtain ⟨fd, hb, hF⟩ := K03.facts (P := PySem.Challenge.rw_landingwires_k03_whole_standings_least_a.prog) (w := w) KX G hmg c
    exact ⟨K, fd, K03.spLaw K, KX, hb, fun H a ns hl _ hS => ⟨a, ns, rfl, hS, fun _ => rfl⟩, hF⟩
#print axioms PySem.Challenge.cw_landingwires_k03_whole_standings_least_a_holds
