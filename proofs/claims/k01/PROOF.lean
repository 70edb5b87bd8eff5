import PyProof.Rows.All
import Wide.All
import OpenK.AllK
import Wide.FinOn
import KE.KStateDown
import KE.KExcIs
import HandS.ForMost
import HandS.ForExc
import HandS.ExcInit
import HandS.IsInst
import HandS.Flow
import HandS.Defaults
import HandS.Head0
import HandS.Head1
import HandS.Head2
import HandS.HeadEnd
import HandS.HeadHook1
import HandS.HeadHook2
import HandS.ExcValue
import HandS.ExcBuiltin
import HandS.SetFor
import HandS.Strs
import HandS.Wide
import HandS.TupAny
import HandS.Property
import HandS.Deep
import HandS.SlotsOwn
import KE.GoesEnum
import HandS.Walk
import KE.KDictZip
import HandS.Zip
import HandS.OwnIter
import HandS.Lambda
import HandS.HeadNt
import HandS.HeadHook4
import HandS.EndTab
import HandS.StrMore
import HandS.SortInts
import HandS.Conv
import HandS.TupLe
import HandS.SetTxtIn
import HandS.RaiseMore
import HandS.WordsDict
import HandS.Replace
import HandS.Style
import PySem.Challenge.RW_landingwires_k01_standings_by_their_mark
set_option Elab.async false
set_option linter.all false
set_option maxRecDepth 100000
set_option maxHeartbeats 4000000
/-! Defs that show values (repr): the promise of a def where nothing is being shown around the call. -/
namespace Lw
open PySem PySem.Spec PyProof.Rows L2
/-- a def's promise, wherever no repr runs around it -/
structure FnG (P : Program) (w : World) (K : PySem.W.Frag) (mg : Str → Option Value) (base : Heap) (CX : CXT) (k : Nat) (f : Addr) (fd : FuncData) (ps : List Str) (sp : Sp) : Prop where
  len : ∀ vs H Q E, sp vs H Q E → vs.length = ps.length
  run : ∀ (A : Around) (outer : List Env) (s : Shared) (H : Hp) (args : Args) (us : List Value) (vs : List V) (Q : VK) (E : XK), A.guards = some [] → Room k A →
    Env0 P w K mg base A outer s H → BindsTo s fd args (ps.zip us) → Vals vs us → sp vs H Q E → codeAny (model P w) A (.call (.ref f) args) (CR CX outer P w H s Q E) s
section
variable {P : Program} {w : World} {K : PySem.W.Frag} {mg : Str → Option Value} {base : Heap} {CX : CXT} {k : Nat} {f : Addr} {fd : FuncData} {ps : List Str} {sp : Sp}
theorem FnG.of (F : FnOk P w K mg base CX k f fd ps sp) : FnG P w K mg base CX k f fd ps sp :=
  ⟨F.len, fun A outer s H args us vs Q E _ => F.run A outer s H args us vs Q E⟩
theorem FnG.mono {j : Nat} (F : FnG P w K mg base CX j f fd ps sp) (h : j ≤ k) : FnG P w K mg base CX k f fd ps sp :=
  ⟨F.len, fun A outer s H args us vs Q E hg hr => F.run A outer s H args us vs Q E hg (hr.mono h)⟩
/-- a def of the text by its body, guards known -/
theorem fnG_of {name qual : Str} {params : Arguments} {body : List Stmt} {scope : Scope} {dV kV doc pm cdv ct oc : Value} {an od : Option Addr} {osl : Array (Option Value)} {N : List Str}
    (lk : K.lookup f = some ⟨oc, od, .func (PySem.W.fnOf name qual params body scope dV kV doc pm an cdv ct), osl⟩) (hcd : PySem.W.codeIn K cdv qual = true) (S : FnScope N ps scope)
    (len : ∀ vs H Q E, sp vs H Q E → vs.length = ps.length)
    (hb : ∀ (A : Around) (outer : List Env) (s : Shared) (H : Hp) (vs : List V) (Q : VK) (E : XK), A.guards = some [] → Room k (A.deeper (envOfC qual scope s.heap.objs.size f cdv)) → sp vs H Q E →
      ∃ t, PSs (cxOf CX P w K mg base N qual scope f cdv A outer s H E) body t ∧ t { nx := fun _ H' => Q .non H', rt := Q } (start N vs) H) :
    FnG P w K mg base CX (k + 1) f (PySem.W.fnOf name qual params body scope dV kV doc pm an cdv ct) ps sp := by
  constructor
  · exact len
  intro A outer s H args us vs Q E hg hr e0 hbind rv want
  have old : ∀ b o, base.get? b = some o → s.heap.get? b = some o := fun b o e => (e0.bs b o e).1
  have kin : K.In s.heap := e0.mod.kin.keeps old
  have kinds : ∀ y ∈ ps.zip us, scope.names.lookup y.1 = some .local ∨ (scope.names.lookup y.1 = some .cell ∧ ((cellsFrom (s.heap.objs.size + 1) scope.names []).lookup y.1).isSome = true) := by
    rintro ⟨n, v⟩ hy
    cases S.par n (List.of_mem_zip hy).1 with
    | inl q => exact .inl q
    | inr q => exact .inr ⟨q, PySem.W.cellsFrom_some _ _ _ (.inl q)⟩
  refine codeAny_call_function hr.depth (kin _ _ lk) rfl S.co S.gen rfl (PySem.W.codeRec_of kin hcd) (hbind _ _ _ _ (wpAny_newFunctionEnv_cells S.kind kinds ?_))
  rintro env rfl s1 x
  obtain ⟨t, ht, hq⟩ := hb A outer s H vs Q E hg (hr.deeper _) want
  refine ⟨(e0.mod.nolimit.keeps old).keeps x.toInCall.keep, codeAny_func ?_⟩
  have I := inv_start (CX := CX) (N := N) (E := E) S hr.hd e0 (len _ _ _ _ want) rv x
  refine wpAny_mono (ht.run [] s1 (start N vs) H _ I hq) (fun fl s' hs => ?_) fun _ _ z => z
  cases fl with
  | ret u =>
    obtain ⟨v, σ', H', J, r, q⟩ := hs
    exact ⟨v, H', J.os, J.bare, J.base, J.hok, r, q⟩
  | next =>
    obtain ⟨σ', H', J, q⟩ := hs
    exact ⟨V.non, H', J.os, J.bare, J.base, J.hok, rfl, q⟩
  | brk =>
    obtain ⟨_, _, _, q⟩ := hs
    cases q
  | cont =>
    obtain ⟨_, _, _, q⟩ := hs
    cases q
theorem okG {x qual : Str} {params : Arguments} {body : List Stmt} {scope : Scope} {N : List Str} (F : FunD K x qual params body scope [] [] f fd) (S : FnScope N ps scope) (len : ∀ vs H Q E, sp vs H Q E → vs.length = ps.length)
    (hb : ∀ (cdv : Value) (A : Around) (outer : List Env) (s : Shared) (H : Hp) (vs : List V) (Q : VK) (E : XK), A.guards = some [] → Room k (A.deeper (envOfC qual scope s.heap.objs.size f cdv)) → sp vs H Q E →
      ∃ t, PSs (cxOf CX P w K mg base N qual scope f cdv A outer s H E) body t ∧ t { nx := fun _ H' => Q .non H', rt := Q } (start N vs) H) : FnG P w K mg base CX (k + 1) f fd ps sp := by
  obtain ⟨oc, od, dV, kV, doc, pm, an, cdv, ct, osl, rfl, lk, hcd, _, _⟩ := F.ex
  exact fnG_of lk hcd S len fun A outer s H vs Q E => hb cdv A outer s H vs Q E
end
section
variable {X : Cx} {CX : CXT} {k : Nat} {f : Addr} {fd : FuncData} {ps : List Str} {sp : Sp} {dvs : List V} {ds : List Value} {E : XK} {x : Str} {p pos : Pos} {e : Expr} {es : List Expr} {t : TA}
theorem runG {pins : List (Addr × Obj)} {σ : L2.St} {H : Hp} {s : Shared} {Q : VK} {us : List Value} {vs : List V} (F : FnG X.prog X.w X.K X.mg X.base CX k f fd ps sp) (hg : X.A.guards = some []) (hr : Room k X.A) (hb : Binds X.K fd ps ds) (hd : Vals dvs ds)
    (hx : Passes CX X E) (I : Inv X pins σ H s) (r : Vals vs us) (h : sp (vs ++ dvs) H Q E) : wpAny (model X.prog X.w) X.A (call (.ref f) us) (EP X pins σ Q) X.xe s := by
  have r2 := r.append hd
  have hl : (us ++ ds).length = ps.length := r2.length.symm.trans (F.len _ _ _ _ h)
  refine wpAny_call (codeAny_mono (F.run X.A X.stack s H ⟨us, []⟩ _ _ Q E hg hr I.env0 (hb s us I.kIn hl) r2 h) ?_)
  intro res s' hq
  match res, hq with
  | .error er, hq => exact hx pins σ H s er s' I hq
  | .ok (.ret u), hq => exact I.after hq
  | .ok .next, hq => exact hq.elim
  | .ok .brk, hq => exact hq.elim
  | .ok .cont, hq => exact hq.elim
/-- f(e, ..) -/
theorem pe_callG (F : FnG X.prog X.w X.K X.mg X.base CX k f fd ps sp) (hgd : X.A.guards = some []) (hr : Room k X.A) (hg : Gl X x) (hm : X.mg x = some (.ref f)) (hk : PySem.W.keepIn X.K (.ref f) = true) (hb : Binds X.K fd ps ds) (hd : Vals dvs ds) (hx : Passes CX X E)
    (ha : PA X (e :: es) t) (hdb : (x == ("__debug__" : Str)) = false := by decide) (he : starEach (e :: es) X.env = (false, eval e X.env) :: starEach es X.env := by rfl) (hpl : (backTo pos (starEach es X.env)).any (·.1) = false := by rfl) :
    PE X (.Call (.Name x p) (e :: es) [] pos) (tCall sp dvs E t) :=
  ⟨fun pins s σ H Q I h => wpAny_Call_Name_kw (ld_glob I hg hm (PySem.W.callWith_K (h₀ := X.base) I.ok.mod.kin hk
    (thn (ha.run pos pins s σ H _ I h) fun us s1 ⟨vs, H1, I1, r, q⟩ => ⟨I1.kIn, runG F hgd hr hb hd hx I1 r q⟩) he hpl) hdb)⟩
end
/-! ### repr -/
/-- data: none, bools, ints, texts, lists, tuples, dicts of int and text keys -/
def keyD : Key → PyData
  | .inl i => .int i
  | .inr x => .str x
/-- data without dicts, or a dict of flat values -/
inductive Flat : V → PyData → Prop
  | non : Flat .non .none
  | bl (b : Bool) : Flat (.bl b) (.bool b)
  | int (i : Int) : Flat (.int i) (.int i)
  | str (x : Str) : Flat (.str x) (.str x)
inductive Dr (K : PySem.W.Frag) (H : Hp) : V → PyData → Prop
  | dp {v : V} {d : PyData} : Dp K H v d → Dr K H v d
  | dic {a : Addr} {kvs : List (Key × V)} {ds : List PyData} : H a = some (.dK kvs) → Paired Flat (kvs.map (·.2)) ds → Dr K H (.ref a) (.dict ((kvs.map fun q => keyD q.1).zip ds))
  | dicR {a : Addr} {kvs : List (Key × V)} {ds : List PyData} : Rd H a (.dK kvs) → Paired Flat (kvs.map (·.2)) ds → Dr K H (.ref a) (.dict ((kvs.map fun q => keyD q.1).zip ds))

mutual
theorem dp_noDict {K : PySem.W.Frag} {H : Hp} : ∀ (d : PyData) (v : V), Dp K H v d → d.hasDict = false
  | .none, _, _ => rfl
  | .bool _, _, _ => rfl
  | .int _, _, _ => rfl
  | .str _, _, _ => rfl
  | .list ds, _, h => by
    cases h with
    | lst _ ha =>
      rw [PyData.hasDict]
      exact dpAll_noDict ds _ ha
  | .tuple ds, _, h => by
    cases h with
    | tup _ ha =>
      rw [PyData.hasDict]
      exact dpAll_noDict ds _ ha
  | .dict _, _, h => by cases h
theorem dpAll_noDict {K : PySem.W.Frag} {H : Hp} : ∀ (ds : List PyData) (vs : List V), DpAll K H vs ds → PyData.hasDictAll ds = false
  | [], _, _ => rfl
  | d :: ds, _, h => by
    cases h with
    | cons h1 h2 =>
      rw [PyData.hasDictAll, dp_noDict d _ h1, dpAll_noDict ds _ h2]
      rfl
end
theorem reads_keys {P : Program} {w : World} {h : Heap} {es : List DictEntry} {vs : List (Key × Value)} (p : Pairs (mixKind P w) es vs) : ReadsAll h (es.map (·.key)) (vs.map fun q => keyD q.1) [] := by
  induction p with
  | nil => exact .nil
  | @cons e kv es kvs h1 h2 _ ih =>
    have one : Reads h e.key (keyD kv.1) [] := by
      rcases keyIs_shape (show keyIs kv.1 e.key = true from h1) with ⟨i, t, e1, e2⟩ | ⟨x, t, e1, e2⟩
      · rw [e1, e2]
        exact Reads.int i t
      · rw [e1, e2]
        exact Reads.str x t
    exact ReadsAll.cons one ih
theorem reads_flat {h : Heap} : ∀ {ws : List V} {ds : List PyData} {us : List Value}, Paired Flat ws ds → Vals ws us → ReadsAll h us ds []
  | _, _, _, .nil, .nil => .nil
  | _, _, _, .cons f p, .cons r q => by
    refine ReadsAll.cons (as := []) ?_ (reads_flat p q)
    cases f with
    | non => cases r; exact Reads.none
    | bl b => cases r; exact Reads.bool b
    | int i => obtain ⟨t, rfl⟩ := r; exact Reads.int i t
    | str x => obtain ⟨t, rfl⟩ := r; exact Reads.str x t
theorem kv_keys : ∀ {kvs : List (Key × V)} {vs : List (Key × Value)}, KV kvs vs → kvs.map (fun q => keyD q.1) = vs.map fun q => keyD q.1
  | _, _, .nil => rfl
  | _, _, .cons h t => by
    rw [List.map_cons, List.map_cons, kv_keys t, h.1]
theorem kv_vals : ∀ {kvs : List (Key × V)} {vs : List (Key × Value)}, KV kvs vs → Vals (kvs.map (·.2)) (vs.map (·.2))
  | _, _, .nil => .nil
  | _, _, .cons h t => .cons h.2 (kv_vals t)
theorem pairs_vals {P : Program} {w : World} {es : List DictEntry} {vs : List (Key × Value)} (p : Pairs (mixKind P w) es vs) : es.map (·.val) = vs.map (·.2) := by
  induction p with
  | nil => rfl
  | cons _ h2 _ ih => rw [List.map_cons, List.map_cons, ih, h2]
theorem paired_len {α β : Type} {F : α → β → Prop} : ∀ {l : List α} {m : List β}, Paired F l m → l.length = m.length
  | _, _, .nil => rfl
  | _, _, .cons _ t => by rw [List.length_cons, List.length_cons, paired_len t]
section
variable {X : Cx} {pins : List (Addr × Obj)} {σ : L2.St} {H : Hp} {s : Shared}
theorem Dr.reads {v : V} {d : PyData} {u : Value} (I : Inv X pins σ H s) (h : Dr X.K H v d) (r : RelV v u) : ∃ as, Reads s.heap u d as ∧ (d.hasDict = true → sysModules ∉ as) := by
  cases h with
  | dp h =>
    obtain ⟨as, q⟩ := Dp.reads I d v u h r
    refine ⟨as, q, fun z => ?_⟩
    rw [dp_noDict d v h] at z
    cases z
  | @dic a kvs ds ea f =>
    cases (show u = Value.ref a from r)
    obtain ⟨_, ns, vs, kv, o, es, ep, ho, ex, hd, _, pr, _⟩ := (show ObjOk X.prog X.w H s.heap a (.dK kvs) from I.hok a _ ea)
    have l1 : (kvs.map fun q => keyD q.1).length = ds.length := by
      have e := paired_len f
      rw [List.length_map] at e ⊢
      exact e
    refine ⟨_, Reads.dict (as := []) (bs := []) ho ex.1 hd ?_ ?_, fun _ z => ?_⟩
    · rw [List.map_fst_zip (Nat.le_of_eq l1), kv_keys kv]
      exact reads_keys pr
    · rw [List.map_snd_zip (Nat.le_of_eq l1.symm), pairs_vals pr]
      exact reads_flat f (kv_vals kv)
    · rcases List.mem_cons.mp (show sysModules ∈ a :: ([] : List Addr) from z) with e | e
      · rw [← e] at ns
        exact absurd (beq_self_eq_true sysModules) (by rw [ns]; exact Bool.false_ne_true)
      · cases e
  | @dicR a kvs ds ea f =>
    cases (show u = Value.ref a from r)
    obtain ⟨_, ns, vs, kv, o, es, ep, ho, ex, hd, _, pr, _⟩ := (show ObjOk X.prog X.w H s.heap a (.dK kvs) from ea.ok I.hok)
    have l1 : (kvs.map fun q => keyD q.1).length = ds.length := by
      have e := paired_len f
      rw [List.length_map] at e ⊢
      exact e
    refine ⟨_, Reads.dict (as := []) (bs := []) ho ex.1 hd ?_ ?_, fun _ z => ?_⟩
    · rw [List.map_fst_zip (Nat.le_of_eq l1), kv_keys kv]
      exact reads_keys pr
    · rw [List.map_snd_zip (Nat.le_of_eq l1.symm), pairs_vals pr]
      exact reads_flat f (kv_vals kv)
    · rcases List.mem_cons.mp (show sysModules ∈ a :: ([] : List Addr) from z) with e | e
      · rw [← e] at ns
        exact absurd (beq_self_eq_true sysModules) (by rw [ns]; exact Bool.false_ne_true)
      · cases e
end
/-- what repr asks of the data: ints below the digits' line, a text that fits, not too deep -/
structure Shows (d : PyData) (x : Str) : Prop where
  eq : d.shown = x
  sh : d.showable = true
  len : d.shown.length ≤ sizeLine
  dep : d.depth ≤ 60
def rRepr (K : PySem.W.Frag) : List V → Hp → VK → Prop := fun xs H Q => ∃ v d x, xs = [v] ∧ Dr K H v d ∧ Shows d x ∧ Q (.str x) H
theorem call_repr {X : Cx} (hg : X.A.guards = some []) (hu : X.A.units + 61 < cLine) : CallR X (.builtin "repr") (rRepr X.K) := by
  intro pins s σ H xs us Q I r h
  obtain ⟨v, d, x, rfl, hd, ⟨rfl, h1, h2, h3⟩, q⟩ := h
  obtain ⟨u, rfl, ru⟩ := r.one
  obtain ⟨as, rd, hsys⟩ := hd.reads I ru
  cases rd with
  | none => exact PySem.P.repr_of_none ⟨.str _, H, I.tok _, ⟨_, rfl⟩, q⟩
  | bool b => exact PySem.P.repr_of_bool ⟨.str _, H, I.tok _, ⟨_, rfl⟩, q⟩
  | int i t => exact PySem.P.repr_of_int (by simpa [PyData.showable] using h1) ⟨.str _, H, I.tok _, ⟨_, rfl⟩, q⟩
  | str y t => exact PySem.P.repr_of_str ⟨.str _, H, I.tok _, ⟨_, rfl⟩, q⟩ h2
  | list a1 a2 a3 a4 => exact repr_of_reads' (Reads.list a1 a2 a3 a4) h1 hsys hg (by omega) (fun _ _ z => z) (fun h' t tk k => ⟨.str _, H, I.kept (t' := tk) k, ⟨_, rfl⟩, q⟩) h2
  | tuple a1 a2 a3 a4 => exact repr_of_reads' (Reads.tuple a1 a2 a3 a4) h1 hsys hg (by omega) (fun _ _ z => z) (fun h' t tk k => ⟨.str _, H, I.kept (t' := tk) k, ⟨_, rfl⟩, q⟩) h2
  | dict a1 a2 a3 a4 a5 => exact repr_of_reads' (Reads.dict a1 a2 a3 a4 a5) h1 hsys hg (by omega) (fun _ _ z => z) (fun h' t tk k => ⟨.str _, H, I.kept (t' := tk) k, ⟨_, rfl⟩, q⟩) h2
end Lw

set_option Elab.async false
set_option linter.all false
set_option maxRecDepth 100000
set_option maxHeartbeats 4000000
/-! Own exceptions with one field, made, held and looked at as values. -/
namespace Lw
open PySem PySem.Spec PyProof.Rows L2
/-- the class at C stands over ValueError, with a dict, without a __del__ -/
def oexB (K : PySem.W.Frag) (C : Addr) : Bool := match K.lookup C with
  | some ⟨.type "type", _, .cls cd, sl⟩ =>
    (match cd.mro, sl.toList with
    | .ref D :: bm, [_, _, _, _, some (.builtin n), _] => (D == C && n == "ValueError.__new__") && ((!cd.hasDel && cd.hasDict) && PySem.HandSPX.refsVE bm)
    | _, _ => false)
  | _ => false
theorem oexB_ok {K : PySem.W.Frag} {C : Addr} (h : oexB K C = true) :
    ∃ nm q N bs bm sn sub ab col dd k0 k1 k2 k3 k5, K.lookup C = some (excClassObj nm q C N bs bm true sn sub ab col dd k0 k1 k2 k3 k5 "ValueError.__new__") ∧ PySem.HandSPX.refsVE bm = true := by
  unfold oexB at h
  split at h
  case h_2 => cases h
  case h_1 dd cd sl ho =>
    split at h
    case h_2 => cases h
    case h_1 D bm k0 k1 k2 k3 n k5 hm hs =>
      obtain ⟨nm, bs, mro, ns, qn, hd, sn, sub, ab, col, del⟩ := cd
      dsimp only at hm h
      simp only [Bool.and_eq_true, beq_iff_eq, Bool.not_eq_true'] at h
      obtain ⟨⟨rfl, rfl⟩, ⟨rfl, rfl⟩, hr⟩ := h
      subst hm
      have e : sl = #[k0, k1, k2, k3, some (.builtin "ValueError.__new__"), k5] := by
        rw [← hs]
      subst e
      exact ⟨nm, qn, ns, bs, bm, sn, sub, ab, col, dd, k0, k1, k2, k3, k5, ho, hr⟩
/-- what is asked of the class of an exception that is held -/
structure XcC (K : PySem.W.Frag) (C : Addr) : Prop where
  ox : OexC K C
  ic : (PySem.W.clsIn K C).isSome = true
  hd : PySem.W.hasDictIn K C = true
  ga : PySem.W.findIn K (.ref C) "__getattribute__" = some (some (.builtin "BaseException.__getattribute__"))
  gg : PySem.W.findIn K (.ref C) "__getattr__" = some none
  nv : PySem.W.findIn K (.ref C) "value" = some none
  ca : PySem.W.findIn K (.ref C) "__class__" = some (some (.builtin "object.__class__"))
  cn : PySem.W.specialIn K (.builtin "object.__class__") "__get__" = some (some (.builtin "getset_descriptor.__get__"))
  ct : PySem.W.takesIn K (.builtin "object.__class__") = some true
  cm : PySem.W.mroIn K C (.type "object") = some true
def xcB (K : PySem.W.Frag) (C : Addr) : Bool := oexB K C && (He.eqO (PySem.W.findIn K (.ref C) "__setattr__") (some (some (.builtin "object.__setattr__"))) && (decide (PySem.W.subIn K (.ref C) (.type "BaseException") = some true) &&
  (decide (PySem.W.typeIn K (.ref C) = some (.type "type")) && (PySem.W.keepIn K (.ref C) && ((PySem.W.clsIn K C).isSome && (PySem.W.hasDictIn K C && (He.eqO (PySem.W.findIn K (.ref C) "__getattribute__") (some (some (.builtin "BaseException.__getattribute__"))) &&
  (He.eqO (PySem.W.findIn K (.ref C) "__getattr__") (some none) && (He.eqO (PySem.W.findIn K (.ref C) "value") (some none) && (He.eqO (PySem.W.findIn K (.ref C) "__class__") (some (some (.builtin "object.__class__"))) &&
  (He.eqO (PySem.W.specialIn K (.builtin "object.__class__") "__get__") (some (some (.builtin "getset_descriptor.__get__"))) && (decide (PySem.W.takesIn K (.builtin "object.__class__") = some true) && decide (PySem.W.mroIn K C (.type "object") = some true)))))))))))))
theorem xcB_ok {K : PySem.W.Frag} {C : Addr} (h : xcB K C = true) : XcC K C := by
  unfold xcB at h
  simp only [Bool.and_eq_true, decide_eq_true_eq] at h
  obtain ⟨h1, h2, h3, h4, h5, h6, h7, h8, h9, h10, h11, h12, h13, h14⟩ := h
  exact ⟨⟨oexB_ok h1, He.eqO_ok h2, h3, h4, h5⟩, h6, h7, He.eqO_ok h8, He.eqO_ok h9, He.eqO_ok h10, He.eqO_ok h11, He.eqO_ok h12, h13, h14⟩
/-- an exception of the class at C stands at a, its value v -/
def ErrAt (H : Hp) (a C : Addr) (v : V) : Prop := ∃ d, H a = some (exo a C (some d)) ∧ H d = some (exd d [("value", v)])
theorem ErrAt.same {H H' : Hp} {a C : Addr} {v : V} (h : ErrAt H a C v) (s : Same H H') : ErrAt H' a C v := by
  obtain ⟨d, h1, h2⟩ := h
  exact ⟨d, s _ _ h1, s _ _ h2⟩
section
variable {X : Cx} {pins : List (Addr × Obj)} {σ : L2.St} {H : Hp} {s : Shared} {a C : Addr} {v : V}
theorem err_inst (I : Inv X pins σ H s) (h : ErrAt H a C v) : ∃ ox od, PySem.W.InstAt s.heap a ox C (some od) ∧ ∃ u, PySem.W.lookIn "value" od = some (some u) ∧ RelV v u := by
  obtain ⟨d, h1, h2⟩ := h
  obtain ⟨t, ho⟩ := exo_at I.hok h1
  obtain ⟨m, hns, r⟩ := exd_at I.hok h2
  obtain ⟨od, hd, hl⟩ := lookIn_ns hns
  have l : List.lookup ("value" : Str) [(("value" : Str), v)] = some v := by simp [List.lookup]
  obtain ⟨u, hu, ru⟩ := RelO.some_of (v := v) (o := m "value") (by rw [← l]; exact r "value")
  exact ⟨_, od, ⟨ho, rfl, rfl, hd⟩, u, by rw [hl, hu], ru⟩
end
/-- isinstance(e, C) -/
def rIsX (K : PySem.W.Frag) : List V → Hp → VK → Prop := fun xs H Q => ∃ (a C : Addr) (v c : V) (u : Value) (b : Bool), xs = [.ref a, c] ∧ ErrAt H a C v ∧ XcC K C ∧ ClsV c u ∧ PySem.W.kitOne K (.ref C) u = some b ∧ Q (.bl b) H
theorem call_isX {X : Cx} : CallR X (.builtin "isinstance") (rIsX X.K) := by
  intro pins s σ H xs us Q I r h
  obtain ⟨a, C, v, c, u, b, rfl, he, T, k, e, q⟩ := h
  obtain ⟨u1, u2, rfl, r1, r2⟩ := vals2 r
  cases (show u1 = Value.ref a from r1)
  have e2 := k.eq r2
  subst e2
  obtain ⟨ox, od, J, _⟩ := err_inst I he
  exact PySem.W.kia_one (PySem.W.kitx_exc T.ic T.ga T.gg T.ox.exC T.ca T.cn T.ct T.cm) I.kIn J e (fun z => nomatch z) fun tk => ⟨.bl b, H, I.tok tk, rfl, q⟩
/-- e.value -/
def tXv (K : PySem.W.Frag) (te : TE) : TE := fun σ H Q => te σ H fun x H1 => ∃ (a C : Addr) (v : V), x = .ref a ∧ ErrAt H1 a C v ∧ XcC K C ∧ Q v H1
theorem pe_xv {X : Cx} {e : Expr} {te : TE} {pos : Pos} (he : PE X e te) (hb : attributeBase e "value" X.env (eval e X.env) = eval e X.env := by rfl) : PE X (.Attribute e "value" pos) (tXv X.K te) := by
  refine ⟨fun pins s σ H Q I h => attr_of hb (thn (he.run pins s σ H _ I h) fun u s1 hh => ?_)⟩
  obtain ⟨x, H1, I1, rx, a, C, v, rfl, ea, T, q⟩ := hh
  cases (show u = Value.ref a from rx)
  obtain ⟨ox, od, J, z, hz, rz⟩ := err_inst I1 ea
  exact PySem.HandSPX.exc_get I1.kIn J T.ga T.gg T.ox.exC (PySem.W.findObj_own T.hd T.nv rfl hz) (handed_of rz) ⟨v, H1, I1.tok _, rz, q⟩
/-- C(e, ..) as a value, C's __init__ keeping sp -/
def tMkV (C : Addr) (sp : Sp) (dvs : List V) (E : XK) (ta : TA) : TE := fun σ H Q => ta σ H fun vs H1 => vs.length ≤ 1000 ∧ ∀ a, H1 a = none → sp (.ref a :: (vs ++ dvs)) (upd H1 a (exo a C none)) (fun v H2 => v = .non ∧ Q (.ref a) H2) E
theorem pe_mkV {X : Cx} {e : Expr} {es : List Expr} {ta : TA} {p pos : Pos} {CX : CXT} {x : Str} {C fI : Addr} {k : Nat} {fd : FuncData} {ps : List Str} {sp : Sp} {ds : List Value} {dvs : List V} {E : XK} (T : OexC X.K C)
    (iC : PySem.W.findIn X.K (.ref C) "__init__" = some (some (.ref fI))) (tI : PySem.W.typeIn X.K (.ref fI) = some (.type "function")) (F1 : FnOk X.prog X.w X.K X.mg X.base CX k fI fd ps sp) (hr : Room (k + 1) X.A) (hb : Binds X.K fd ps ds)
    (hd : Vals dvs ds) (hx : Passes CX X E) (hg : Gl X x) (hm : X.mg x = some (.ref C)) (ha : PA X (e :: es) ta)
    (hdb : (x == ("__debug__" : Str)) = false := by decide) (he : starEach (e :: es) X.env = (false, eval e X.env) :: starEach es X.env := by rfl) (hpl : (backTo pos (starEach es X.env)).any (·.1) = false := by rfl) :
    PE X (.Call (.Name x p) (e :: es) [] pos) (tMkV C sp dvs E ta) := by
  refine ⟨fun pins s σ H Q I h => wpAny_Call_Name_kw (ld_glob I hg hm (PySem.W.callWith_K (h₀ := X.base) I.ok.mod.kin T.kC (thn (ha.run pos pins s σ H _ I h) fun us s1 hh => ?_) he hpl) hdb)⟩
  obtain ⟨vs, H1, I1, r1, hz, q1⟩ := hh
  refine ⟨I1.kIn, ?_⟩
  obtain ⟨nm, q, N, bs, bm, sn, sub, ab, col, dd, k0, k1, k2, k3, k5, hC, hbm⟩ := T.cls
  obtain ⟨hp, g, dr, tk, os⟩ := s1
  show wpAny _ _ (call (.ref C) us) _ _ _
  have big : hp.objs.size ≤ hp.objs.size + 1 := Nat.le_succ _
  have hq := q1 (hp.objs.size + 1) (I1.hok.fresh big)
  have at_ : ((hp.push (PySem.W.kdv_tup us)).push (PySem.HandSPX.excO C hp.objs.size)).get? (hp.objs.size + 1) = some (PySem.HandSPX.excO C hp.objs.size) := by heap_get
  have I2 : Inv X pins σ (upd H1 (hp.objs.size + 1) (exo (hp.objs.size + 1) C none)) ⟨(hp.push (PySem.W.kdv_tup us)).push (PySem.HandSPX.excO C hp.objs.size), g, dr, tk, os⟩ :=
    I1.laid (t' := tk) (fun b o z => Heap.get?_push_of_some _ (Heap.get?_push_of_some _ z)) big (exo_ok at_)
  have r2 : Vals (V.ref (hp.objs.size + 1) :: (vs ++ dvs)) (Value.ref (hp.objs.size + 1) :: us ++ ds) := Paired.cons rfl (r1.append hd)
  have hl : (Value.ref (hp.objs.size + 1) :: us ++ ds).length = ps.length := r2.length.symm.trans (F1.len _ _ _ _ hq)
  have hus : us.length ≤ sizeLine := by
    have e1 := Paired.length r1
    rw [sizeLine_eq]
    omega
  refine wpAny_call (PySem.HandSPX.call_own F.excBase_ValueError (fun Y => PySem.HandSPX.refsVE_contains Y bm hbm) (I1.kIn _ _ hC) (PySem.W.looks_findIn I1.kIn iC) (fun self => PySem.W.bind_fn I1.kIn self tI) hus ?_)
  refine codeAny_mono (F1.run _ X.stack _ _ ⟨Value.ref (hp.objs.size + 1) :: us, []⟩ _ _ _ E (hr.make C us []) (I2.env0.make C us []) (hb _ (Value.ref (hp.objs.size + 1) :: us) I2.kIn hl) r2 hq) fun res s' hs => ?_
  match res, hs with
  | .error er, hs => exact hx pins σ _ _ er s' I2 hs
  | .ok (.ret u), hs =>
    obtain ⟨v, H3, I3, rv, rfl, q3⟩ := I2.after hs
    exact ⟨rv, ⟨.ref (hp.objs.size + 1), H3, I3, rfl, q3⟩⟩
  | .ok .next, hs => exact hs.elim
  | .ok .brk, hs => exact hs.elim
  | .ok .cont, hs => exact hs.elim
/-- ValueError(e) as a value -/
theorem pe_veV {X : Cx} {x : Str} {e : Expr} {t : TA} {p pos : Pos} (hg : Gl X x) (hm : X.mg x = none) (hv : bootBuiltins x = some (.type "ValueError")) (ha : PA X [e] t) (hn : x ≠ "__name__" := by decide) (hdb : (x == ("__debug__" : Str)) = false := by decide)
    (he : starEach [e] X.env = (false, eval e X.env) :: starEach [] X.env := by rfl) (hpl : (backTo pos (starEach [] X.env)).any (·.1) = false := by rfl) :
    PE X (.Call (.Name x p) [e] [] pos) (fun σ H Q => t σ H fun vs H1 => vs.length ≤ sizeLine ∧ ∀ a, H1 a = none → Q (.ref a) (upd H1 a (ExO (.type "ValueError") a))) := by
  refine ⟨fun pins s σ H Q J h => wpAny_Call_Name_kw (ld_blt J hg hm hv (PyProof.Rows.callWith_type1 (thn (ha.run pos pins s σ H _ J h) fun us s1 hh => ?_) he hpl) hn hdb)⟩
  obtain ⟨vs, H1, I1, r1, q0, q1⟩ := hh
  obtain ⟨hp1, g1, d1, tk1, os1⟩ := s1
  refine wpAny_call_exc exb_ValueError.call (fun h' a mk => ?_) (Nat.le_trans (Nat.le_of_eq r1.length.symm) q0)
  have m2 := PySem.Heap.MadeExc.of mk
  obtain ⟨t0, ht, _, _⟩ := m2.there
  have hn := I1.hok.gone m2.new
  exact ⟨.ref a, _, I1.laidN m2.keeps m2.new hn (exO_ok ht ⟨rfl, rfl⟩ rfl rfl rfl (show 4 < 6 by decide)), rfl, q1 a hn⟩
/-- isinstance(e, C), e such a ValueError -/
def rIsV (K : PySem.W.Frag) : List V → Hp → VK → Prop := fun xs H Q => ∃ (a : Addr) (c : V) (u : Value) (b : Bool), xs = [.ref a, c] ∧ H a = some (ExO (.type "ValueError") a) ∧ ClsV c u ∧ PySem.W.kitOne K (.type "ValueError") u = some b ∧ Q (.bl b) H
theorem call_isV {X : Cx} : CallR X (.builtin "isinstance") (rIsV X.K) := by
  intro pins s σ H xs us Q I r h
  obtain ⟨a, c, u, b, rfl, he, k, e, q⟩ := h
  obtain ⟨u1, u2, rfl, r1, r2⟩ := vals2 r
  cases (show u1 = Value.ref a from r1)
  have e2 := k.eq r2
  subst e2
  obtain ⟨⟨oe, vs, ho, hz, _⟩, _, _⟩ := I.hok a _ he
  exact PySem.W.kia_one (PySem.W.kitx_bexc PySem.F.excAttr_ValueError F.lkClass_ValueError F.soClass_ValueError (by decide +kernel)) I.kIn ⟨oe, ho, hz.1⟩ e (fun z => nomatch z) fun tk => ⟨.bl b, H, I.tok tk, rfl, q⟩
end Lw
namespace Lw
open PySem PySem.Spec PyProof.Rows L2
/-- what the one __init__ does: the field value, and no more -/
def spInit (K : PySem.W.Frag) : Sp := fun vs H Q _ => ∃ (a C : Addr) (v : V), vs = [.ref a, v] ∧ OexC K C ∧ PySem.W.findIn K (.ref C) "value" = some none ∧ H a = some (exo a C none) ∧
  ∀ H' : Hp, ErrAt H' a C v → (∀ b o, H b = some o → b ≠ a → H' b = some o) → Q .non H'
theorem init_reads {K : PySem.W.Frag} {vs : List V} {H : Hp} {Q : VK} {E : XK} (h : spInit K vs H Q E) : tOst K "value" (tVar 0) (tVar 1) { nx := fun _ H' => Q .non H', rt := Q } (start ["self", "value"] vs) H := by
  obtain ⟨a, C, v, rfl, T, hno, ea, k⟩ := h
  refine ⟨_, rfl, _, rfl, a, C, rfl, T, hno, .inl ⟨ea, fun dx n ne => k _ ⟨dx, upd_same, ?_⟩ fun b o e hb => ?_⟩⟩
  · rw [upd_ne ne]
    exact upd_same
  · rw [upd_ne hb, upd_ne (ne_of_none e n)]
    exact e
/-- a new exception of the class at C, its value what the name in slot i holds -/
theorem mk_reads {K : PySem.W.Frag} {C : Addr} {i : Nat} {σ : L2.St} {H : Hp} {Q : VK} {v : V} (T : XcC K C) (hσ : σ[i]? = some (some v)) (h : ∀ a H', H a = none → ErrAt H' a C v → Same H H' → Q (.ref a) H') :
    tMkV C (spInit K) [] E0 (tCons (tVar i) tNil) σ H Q := by
  refine ⟨v, hσ, (by show 1 ≤ 1000; decide), fun a na => ⟨a, C, v, rfl, T.ox, T.nv, upd_same, fun H' e k => ⟨rfl, h a H' na e fun b o eb => ?_⟩⟩⟩
  have hb : b ≠ a := ne_of_none eb na
  exact k b o (by rw [upd_ne hb]; exact eb) hb
/-- several of them, one behind the other -/
def tMks (K : PySem.W.Frag) (i : Nat) : List Str → TA
  | [] => tNil
  | x :: r => tCons (tMkV (He.ga K x) (spInit K) [] E0 (tCons (tVar i) tNil)) (tMks K i r)
theorem mks_reads {K : PySem.W.Frag} {i : Nat} {σ : L2.St} {v : V} (hσ : σ[i]? = some (some v)) : ∀ (xs : List Str) {H : Hp} {Q : List V → Hp → Prop}, (∀ x ∈ xs, XcC K (He.ga K x)) →
    (∀ (as : List Addr) (H' : Hp), Same H H' → Paired (fun a x => ErrAt H' a (He.ga K x) v) as xs → Q (as.map V.ref) H') → tMks K i xs σ H Q
  | [], H, Q, _, h => h [] H (Same.refl H) .nil
  | x :: r, H, Q, hT, h => by
    show tMkV (He.ga K x) (spInit K) [] E0 (tCons (tVar i) tNil) σ H fun y H1 => tMks K i r σ H1 fun ys H2 => Q (y :: ys) H2
    refine mk_reads (hT x List.mem_cons_self) hσ fun a H1 _ e s1 => ?_
    refine mks_reads hσ r (fun y hy => hT y (List.mem_cons_of_mem _ hy)) fun as H2 s2 p => ?_
    exact h (a :: as) H2 (s1.trans s2) (.cons (e.same s2) p)
/-- what isinstance(the value at a, the class u) tells -/
def IsB (K : PySem.W.Frag) (H : Hp) (a : Addr) (u : Value) (b : Bool) : Prop := (∃ (C : Addr) (v : V), ErrAt H a C v ∧ XcC K C ∧ PySem.W.kitOne K (.ref C) u = some b) ∨ (H a = some (ExO (.type "ValueError") a) ∧ PySem.W.kitOne K (.type "ValueError") u = some b)
theorem IsB.same {K : PySem.W.Frag} {H H' : Hp} {a : Addr} {u : Value} {b : Bool} (h : IsB K H a u b) (s : Same H H') : IsB K H' a u b := by
  rcases h with ⟨C, v, e, T, k⟩ | ⟨e, k⟩
  · exact .inl ⟨C, v, e.same s, T, k⟩
  · exact .inr ⟨s _ _ e, k⟩
def rIsB (K : PySem.W.Frag) : List V → Hp → VK → Prop := fun xs H Q => ∃ (a : Addr) (c : V) (u : Value) (b : Bool), xs = [.ref a, c] ∧ ClsV c u ∧ IsB K H a u b ∧ Q (.bl b) H
theorem call_isB {X : Cx} : CallR X (.builtin "isinstance") (rIsB X.K) := by
  intro pins s σ H xs us Q I r h
  obtain ⟨a, c, u, b, rfl, k, hb, q⟩ := h
  rcases hb with ⟨C, v, e, T, kt⟩ | ⟨e, kt⟩
  · exact call_isX pins s σ H _ us Q I r ⟨a, C, v, c, u, b, rfl, e, T, k, kt, q⟩
  · exact call_isV pins s σ H _ us Q I r ⟨a, c, u, b, rfl, e, k, kt, q⟩
/-- isinstance(the name in slot i, X) for several X, one behind the other -/
def tIss (K : PySem.W.Frag) (i : Nat) : List Str → TA
  | [] => tNil
  | x :: r => tCons (tCB (rIsB K) (tCons (tVar i) (tCons (tC (.ref (He.ga K x))) tNil))) (tIss K i r)
theorem iss_reads {K : PySem.W.Frag} {i : Nat} {σ : L2.St} {a : Addr} (hσ : σ[i]? = some (some (.ref a))) : ∀ {bs : List Bool} {xs : List Str} {H : Hp} {Q : List V → Hp → Prop}, Paired (fun b x => IsB K H a (.ref (He.ga K x)) b) bs xs →
    Q (bs.map V.bl) H → tIss K i xs σ H Q
  | _, _, H, Q, .nil, h => h
  | b :: bs, x :: xs, H, Q, .cons e p, h => ⟨_, hσ, a, _, _, b, rfl, .own _, e, iss_reads hσ p h⟩
/-- xs.extend([..]) several times, then return xs -/
def tExts (K : PySem.W.Frag) (tel : List Str → TA) : List (List Str) → TS
  | [] => tRet (tVar 1)
  | g :: r => tSeq (tDrop (tBM K "list" rExtend (tVar 1) (tCons (tLst (tel g)) tNil))) (tExts K tel r)
end Lw
namespace Lw
open PySem PySem.Spec PyProof.Rows L2
theorem exo_lst {e C : Addr} {d : Option Addr} {xs : List V} : exo e C d ≠ .lst xs := fun z => by
  have z' : HO.ext _ = HO.lst xs := z
  cases z'
theorem exd_lst {e : Addr} {fs : List (Str × V)} {xs : List V} : exd e fs ≠ .lst xs := fun z => by
  have z' : HO.ext _ = HO.lst xs := z
  cases z'
theorem ErrAt.but {H H' : Hp} {a C l : Addr} {v : V} {xs : List V} (h : ErrAt H a C v) (hl : H l = some (.lst xs)) (k : ∀ b o, H b = some o → b ≠ l → H' b = some o) : ErrAt H' a C v := by
  obtain ⟨d, h1, h2⟩ := h
  exact ⟨d, k _ _ h1 (ne_of h1 hl exo_lst), k _ _ h2 (ne_of h2 hl exd_lst)⟩
theorem paired_map {α β : Type} {F G : α → β → Prop} (h : ∀ a b, F a b → G a b) : ∀ {l : List α} {m : List β}, Paired F l m → Paired G l m
  | _, _, .nil => .nil
  | _, _, .cons r t => .cons (h _ _ r) (paired_map h t)
theorem paired_app {α β : Type} {F : α → β → Prop} : ∀ {l l' : List α} {m m' : List β}, Paired F l m → Paired F l' m' → Paired F (l ++ l') (m ++ m')
  | _, _, _, _, .nil, h => h
  | _, _, _, _, .cons r t, h => .cons r (paired_app t h)
theorem paired_split {α β : Type} {F : α → β → Prop} : ∀ {m m' : List β} {l : List α}, Paired F l (m ++ m') → ∃ l1 l2, l = l1 ++ l2 ∧ Paired F l1 m ∧ Paired F l2 m'
  | [], _, l, q => ⟨[], l, rfl, .nil, q⟩
  | _ :: m, _, _ :: _, .cons r t => by
    obtain ⟨l1, l2, e, q1, q2⟩ := paired_split (m := m) t
    exact ⟨_ :: l1, l2, by rw [e]; rfl, .cons r q1, q2⟩
theorem lst_first {te : TA} {rest : TS} {D : Ends} {v : V} {H : Hp} (h : te [some v, none] H fun xs H1 => xs.length ≤ sizeLine ∧ ∀ p, H1 p = none → rest D [some v, some (.ref p)] (upd H1 p (.lst xs))) : tSeq (tAsg (tLst te) (gName 1)) rest D [some v, none] H := h
theorem exts_made {K : PySem.W.Frag} {v : V} {l : Addr} {H0 : Hp} {D : Ends} (h0 : H0 l = none) : ∀ (gs : List (List Str)) {H : Hp} {as : List Addr} {done : List Str}, H l = some (.lst (as.map V.ref)) → Same H0 H → Paired (fun a x => ErrAt H a (He.ga K x) v) as done →
    (∀ g ∈ gs, ∀ x ∈ g, XcC K (He.ga K x)) → (∀ g ∈ gs, g.length ≤ 100) → done.length + 100 * gs.length ≤ 10000 →
    (∀ (as' : List Addr) (H' : Hp), H' l = some (.lst (as'.map V.ref)) → Same H0 H' → Paired (fun a x => ErrAt H' a (He.ga K x) v) as' (done ++ gs.flatten) → D.rt (.ref l) H') →
    tExts K (tMks K 0) gs D [some v, some (.ref l)] H
  | [], H, as, done, hl, s0, p, _, _, _, k => ⟨_, rfl, k as H hl s0 (by rw [List.flatten_nil, List.append_nil]; exact p)⟩
  | g :: gs, H, as, done, hl, s0, p, hT, hg, hn, k => by
    refine ⟨_, rfl, Or.inl ⟨rfl, _, Or.inl (Or.inl hl)⟩, ?_⟩
    have big : (100000 : Nat) ≤ sizeLine := by rw [sizeLine_eq]; omega
    have g1 := hg g List.mem_cons_self
    have e1 := paired_len p
    rw [List.length_cons] at hn
    refine mks_reads rfl g (hT g List.mem_cons_self) fun as2 H2 s2 p2 => ?_
    have e2 := paired_len p2
    refine ⟨by rw [List.length_map]; omega, fun q hq => ?_⟩
    have hl2 := s2 _ _ hl
    have nlq : l ≠ q := ne_of_none hl2 hq
    refine ⟨l, q, as.map V.ref, as2.map V.ref, rfl, rfl, by rw [upd_ne nlq]; exact hl2, upd_same, by rw [List.length_map, List.length_map]; omega, ?_⟩
    have kb : ∀ b o, H2 b = some o → b ≠ l → upd (upd H2 q (.lst (as2.map V.ref))) l (.lst (as.map V.ref ++ as2.map V.ref)) b = some o := fun b o e hb => by
      rw [upd_ne hb, upd_ne (ne_of_none e hq)]
      exact e
    refine exts_made h0 gs (as := as ++ as2) (done := done ++ g) (by rw [upd_same, List.map_append]) (fun b o e => kb b o (s2 _ _ (s0 _ _ e)) (ne_of_none e h0)) (paired_app (paired_map (fun a x h => (h.same s2).but hl2 kb) p) (paired_map (fun a x h => h.but hl2 kb) p2))
      (fun g' h' => hT g' (List.mem_cons_of_mem _ h')) (fun g' h' => hg g' (List.mem_cons_of_mem _ h')) (by rw [List.length_append]; omega) fun as' H' a1 a2 a3 => k as' H' a1 a2 ?_
    rw [List.flatten_cons, ← List.append_assoc]
    exact a3
theorem exts_iss {K : PySem.W.Frag} {a l : Addr} {H0 : Hp} {D : Ends} (h0 : H0 l = none) : ∀ (gs : List (List Str)) {H : Hp} {bs cs : List Bool}, H l = some (.lst (bs.map V.bl)) → Same H0 H → Paired (fun b x => IsB K H0 a (.ref (He.ga K x)) b) cs gs.flatten →
    bs.length + cs.length ≤ 10000 → (∀ H' : Hp, H' l = some (.lst ((bs ++ cs).map V.bl)) → Same H0 H' → D.rt (.ref l) H') → tExts K (tIss K 0) gs D [some (.ref a), some (.ref l)] H
  | [], H, bs, cs, hl, s0, p, _, k => by
    cases p
    refine ⟨_, rfl, k H ?_ s0⟩
    rw [List.append_nil]
    exact hl
  | g :: gs, H, bs, cs, hl, s0, p, hn, k => by
    have big : (100000 : Nat) ≤ sizeLine := by rw [sizeLine_eq]; omega
    obtain ⟨c1, c2, rfl, p1, p2⟩ := paired_split (m := g) (m' := gs.flatten) (by rw [← List.flatten_cons]; exact p)
    rw [List.length_append] at hn
    refine ⟨_, rfl, Or.inl ⟨rfl, _, Or.inl (Or.inl hl)⟩, ?_⟩
    refine iss_reads rfl (paired_map (fun b x h => h.same s0) p1) ⟨by rw [List.length_map]; omega, fun q hq => ?_⟩
    have nlq : l ≠ q := ne_of_none hl hq
    refine ⟨l, q, bs.map V.bl, c1.map V.bl, rfl, rfl, by rw [upd_ne nlq]; exact hl, upd_same, by rw [List.length_map, List.length_map]; omega, ?_⟩
    refine exts_iss h0 gs (bs := bs ++ c1) (cs := c2) (by rw [upd_same, List.map_append]) (fun b o e => ?_) p2 (by rw [List.length_append]; omega) fun H' a1 a2 => k H' (by rw [← List.append_assoc]; exact a1) a2
    rw [upd_ne (ne_of_none e h0), upd_ne (ne_of_none (s0 _ _ e) hq)]
    exact s0 _ _ e
end Lw

set_option Elab.async false
set_option linter.all false
set_option maxRecDepth 100000
set_option maxHeartbeats 4000000
/-! A law whose def shows values; data under a growing heap. -/
namespace Lw
open PySem PySem.Spec PyProof.Rows L2
theorem ifF {c : Bool} {A B : Prop} (hc : c = false) (h : B) : if c = true then A else B := by
  subst hc
  exact iteF h
theorem ifT {c : Bool} {A B : Prop} (hc : c = true) (h : A) : if c = true then A else B := by
  subst hc
  exact iteT h
theorem set_reads {te : TE} {i : Nat} {D : Ends} {σ : L2.St} {H : Hp} (h : te σ H fun v H1 => D.nx (σ.set i (some v)) H1) : tAsg te (gName i) D σ H := h
theorem seq_reads {t u : TS} {D : Ends} {σ : L2.St} {H : Hp} (h : t { D with nx := fun σ' H' => u D σ' H' } σ H) : tSeq t u D σ H := h
theorem sqT_same {K : PySem.W.Frag} {H H' : Hp} {a : Addr} {xs : List V} (e : Same H H') (h : SqT K H a xs) : SqT K H' a xs := by
  rcases h with (h | ⟨o, h⟩) | h
  · exact .inl (.inl (e _ _ h))
  · exact .inl (.inr ⟨o, e _ _ h⟩)
  · exact .inr h
mutual
theorem dp_same {K : PySem.W.Frag} {H H' : Hp} (e : Same H H') : ∀ (d : PyData) (v : V), Dp K H v d → Dp K H' v d
  | .none, _, h => by cases h; exact .non
  | .bool _, _, h => by cases h; exact .bl _
  | .int _, _, h => by cases h; exact .int _
  | .str _, _, h => by cases h; exact .str _
  | .list ds, _, h => by
    cases h with
    | lst hs ha => exact .lst (e.seq hs) (dpAll_same e ds _ ha)
  | .tuple ds, _, h => by
    cases h with
    | tup hs ha => exact .tup (sqT_same e hs) (dpAll_same e ds _ ha)
  | .dict _, _, h => by cases h
theorem dpAll_same {K : PySem.W.Frag} {H H' : Hp} (e : Same H H') : ∀ (ds : List PyData) (vs : List V), DpAll K H vs ds → DpAll K H' vs ds
  | [], _, h => by cases h; exact .nil
  | d :: ds, _, h => by
    cases h with
    | cons h1 h2 => exact .cons (dp_same e d _ h1) (dpAll_same e ds _ h2)
end
theorem Dr.same {K : PySem.W.Frag} {H H' : Hp} {v : V} {d : PyData} (h : Dr K H v d) (e : Same H H') : Dr K H' v d := by
  cases h with
  | dp h => exact .dp (dp_same e d v h)
  | dic h f => exact .dic (e _ _ h) f
  | dicR h f => exact .dicR (h.elim (fun q => .inl (e _ _ q)) fun ⟨o, q⟩ => .inr ⟨o, e _ _ q⟩) f
/-- a list of bools, as data -/
theorem dp_bools {K : PySem.W.Frag} {H : Hp} : ∀ bs : List Bool, DpAll K H (bs.map V.bl) (bs.map PyData.bool)
  | [] => .nil
  | b :: bs => .cons (.bl b) (dp_bools bs)
theorem lay_bools : ∀ bs : List Bool, PyData.canLayAll0 (bs.map PyData.bool) = true
  | [] => rfl
  | b :: bs => by
    rw [List.map_cons, PyData.canLayAll0, lay_bools bs]
    rfl
theorem depth_bools : ∀ bs : List Bool, PyData.depthAll (bs.map PyData.bool) = 0
  | [] => rfl
  | b :: bs => by
    rw [List.map_cons, PyData.depthAll, depth_bools bs]
    rfl
theorem shaped_bools (bs : List Bool) : SeqAt.shaped (.list (bs.map PyData.bool)) = true := by
  show (PyData.canLay0 (.list (bs.map PyData.bool)) && decide (PyData.depth (.list (bs.map PyData.bool)) ≤ 64)) = true
  rw [Bool.and_eq_true]
  refine ⟨by simp only [PyData.canLay0]; exact lay_bools bs, decide_eq_true ?_⟩
  simp only [PyData.depth]
  rw [depth_bools]
  decide
theorem eqv_bools : ∀ bs : List Bool, PyData.eqvAll (bs.map PyData.bool) (bs.map PyData.bool) = true
  | [] => by simp [PyData.eqvAll]
  | b :: bs => by
    rw [List.map_cons, PyData.eqvAll, eqv_bools bs]
    cases b <;> simp [PyData.eqv]
theorem paired_get {α β : Type} {F : α → β → Prop} : ∀ {l : List α} {m : List β} {i : Nat} {a : α}, Paired F l m → l[i]? = some a → ∃ b, m[i]? = some b ∧ F a b
  | _, _, 0, a, .cons r _, h => ⟨_, rfl, by rw [← Option.some.inj h]; exact r⟩
  | _, _, i + 1, a, .cons _ t, h => paired_get (i := i) t h
  | _, _, _, _, .nil, h => by cases h
theorem paired_const {α β : Type} {F : α → β → Prop} {g : β → α} : ∀ {m : List β}, (∀ y ∈ m, F (g y) y) → Paired F (m.map g) m
  | [], _ => .nil
  | y :: m, h => .cons (h y List.mem_cons_self) (paired_const fun z hz => h z (List.mem_cons_of_mem _ hz))
/-- the law's own call, its def's promise holding where nothing is being shown -/
theorem lawG_call {P : Program} {w : World} {K : PySem.W.Frag} {mg mb : Str → Option Value} {CX : CXT} {k : Nat} {fa a : Addr} {fd : FuncData} {x : Str} {sp : Sp} {s₁ : Shared} {vs : List Value} {ns : List Int}
    (KX : K.In s₁.heap) (hns : s₁.heap.Ns mainGlobals mg) (hb : s₁.heap.Ns builtinsNs mb) (hbb : ∀ x : Str, x ≠ "__name__" → mb x = bootBuiltins x) (hlim : s₁.heap.NoLimit) (hg : s₁.gens = #[])
    (ha : s₁.heap.get? a = some { cls := .type "list", data := .seq vs.toArray }) (hi : IntsAre vs ns) (hl : ns.length ≤ sizeLine) (hr : Room k callerA)
    (F : ∀ base : Heap, K.In base → base.Ns mainGlobals mg → FnG P w K mg base CX k fa fd [x] sp) (hbind : ∀ (s : Shared) (u : Value), BindsTo s fd ⟨[u], []⟩ [(x, u)])
    (hsp : ∀ H : Hp, Only H → SqL K H a (ns.map V.int) → sp [.ref a] H (fun v _ => v = .bl true) fun _ _ _ => False) (hCX : ∀ H e s', CX [] H s₁ (fun _ _ _ => False) e s' → False) :
    codeAny (model P w) callerA (.call (.ref fa) ⟨[.ref a], []⟩) (fun r s' => r = .ok (.ret (.bool true)) ∧ OldK s₁.heap s'.heap ∧ s'.os = s₁.os ∧ AllBare s'.gens) s₁ := by
  have go : ∀ H : Hp, Only H → SqL K H a (ns.map V.int) → HOk P w H s₁.heap → (∀ b u, H b = some u → b = a) → (∀ u, H a = some u → K.lookup a = none) →
      codeAny (model P w) callerA (.call (.ref fa) ⟨[.ref a], []⟩) (fun r s' => r = .ok (.ret (.bool true)) ∧ OldK s₁.heap s'.heap ∧ s'.os = s₁.os ∧ AllBare s'.gens) s₁ := by
    intro H only sq hok one noK
    have keepN : ∀ {b : Addr} {o : Obj}, s₁.heap.get? b = some o → H b = none → (hidT s₁.heap H).get? b = some o := fun z n => hidT_get z n
    have notA : ∀ {b : Addr} {o : Obj} {es : Array DictEntry} {ep : Nat}, s₁.heap.get? b = some o → o.data = .dict es ep → H b = none := by
      intro b o es ep z d
      rcases q : H b with _ | u
      · rfl
      · have e := one b u q
        subst e
        rw [ha] at z
        cases z
        cases (show Data.seq vs.toArray _ = Data.dict es ep from d)
    have kns : ∀ {b : Addr} {m : Str → Option Value}, s₁.heap.Ns b m → (hidT s₁.heap H).Ns b m := by
      rintro b m ⟨o, es, ep, z, d, r⟩
      exact ⟨o, es, ep, keepN z (notA z d), d, r⟩
    have kin : K.In (hidT s₁.heap H) := by
      intro b o z
      refine keepN (KX b o z) ?_
      rcases q : H b with _ | u
      · rfl
      · have e := one b u q
        subst e
        rw [noK u q] at z
        cases z
    obtain ⟨mc, l1, l2⟩ := hlim
    have e0 : Env0 P w K mg (hidT s₁.heap H) callerA [] s₁ H :=
      { frames := rfl, mod := { kin := kin, glob := kns hns, blt := ⟨mb, kns hb, hbb⟩, nolimit := ⟨mc, kns l1, l2⟩ }, bs := fun _ _ z => of_hidT z, bsz := Nat.le_of_eq (hidT_size _ _), funs := trivial, frf := fun b z => (by cases (show b ∈ ([] : List Addr) from z)), hok := hok, bare := .of_eq hg }
    refine codeAny_mono ((F _ kin (kns hns)).run callerA [] s₁ H ⟨[.ref a], []⟩ [.ref a] [.ref a] _ _ rfl hr e0 (hbind s₁ (.ref a)) (.cons rfl .nil) (hsp H only sq)) ?_
    intro r s' h
    match r, h with
    | .error e, h => exact (hCX H e s' h).elim
    | .ok .next, h => exact h.elim
    | .ok .brk, h => exact h.elim
    | .ok .cont, h => exact h.elim
    | .ok (.ret u), ⟨v, H', os, bare, un, hok', r', q⟩ =>
      cases (show v = V.bl true from q)
      cases (show u = Value.bool true from r')
      refine ⟨rfl, OldK.of_keep fun b o z => ?_, os, bare⟩
      rcases only b with n | ⟨ob, xs, n⟩
      · exact un.keep b o z n (fun y => by cases (show b ∈ ([] : List Addr) from y)) (by simp)
      · obtain ⟨e1, _⟩ := hok b _ n
        obtain ⟨e2, _⟩ := hok' b _ (un.frzs b ob _ n)
        rw [z] at e1
        cases e1
        exact e2
  have rv : Vals (ns.map V.int) vs := vals_ints hi
  have len := hi.length
  rcases hk : K.lookup a with _ | o
  · -- the script is tracked, locked
    refine go (fun b => if b = a then some (.frz { cls := .type "list", data := .seq vs.toArray } (.lst (ns.map V.int))) else none) ?_ (.inl (.inr ⟨_, if_pos rfl⟩)) ?_ ?_ fun _ _ => hk
    · intro b
      by_cases e : b = a
      · exact .inr ⟨_, _, if_pos e⟩
      · exact .inl (if_neg e)
    · intro b u z
      by_cases e : b = a
      · subst e
        cases (if_pos rfl).symm.trans z
        exact ⟨ha, by rw [List.length_map]; exact hl, vs, _, rv, ha⟩
      · cases (if_neg e).symm.trans z
    · intro b u z
      by_cases e : b = a
      · exact e
      · cases (if_neg e).symm.trans z
  · -- the script is an object of the module
    have e := KX a o hk
    rw [ha] at e
    cases e
    exact go (fun _ => none) (fun _ => .inl rfl) (.inr ⟨_, vs.toArray, _, hk, rfl, rfl, rfl, by rw [List.size_toArray, len]; exact hl, by simpa using rv⟩) (fun b u z => (by cases (show (none : Option HO) = some u from z)))
      (fun b u z => (by cases (show (none : Option HO) = some u from z))) fun u z => (by cases (show (none : Option HO) = some u from z))
theorem walkG {l : PySem.W.OpenLaw} {n k : Nat} {q : Program} {loose : List Str} {XP : (Str → Option Value) → Heap → Prop} {YP : World → Heap → Prop} {d : DefRec} {CX : CXT} {x : Str}
    (hn : l.most = some n) (hn2 : n ≤ sizeLine) (hdf : d.params.defaults = []) (hr : Room k callerA)
    (F : ∀ (w : World) (mg : Str → Option Value) (fa : Addr) (h : Heap), YP w h → h.Ns mainGlobals mg → mg d.name = some (.ref fa) →
      ∃ (K : PySem.W.Frag) (fd : FuncData) (sp : Sp), K.In h ∧ (∀ (s : Shared) (u : Value), BindsTo s fd ⟨[u], []⟩ [(x, u)]) ∧
        (∀ (H : Hp) (a : Addr) (ns : List Int), ns.length ≤ n → Only H → SqL K H a (ns.map V.int) → sp [.ref a] H (fun v _ => v = .bl true) fun _ _ _ => False) ∧
        ∀ base : Heap, K.In base → base.Ns mainGlobals mg → FnG l.prog w K mg base CX k fa fd [x] sp)
    (hCX : ∀ (H : Hp) (s : Shared) (e : Value) (s' : Shared), CX [] H s (fun _ _ _ => False) e s' → False) : PySem.W.WalkO q loose XP YP l.row.toRowW d [] (fun f vs => PySem.call f vs) := by
  refine Att.attach_call hn hdf fun w s₀ s₁ mg mb fa o pm cd doc a vs ns G Y ho hd hcd hmg hobj hints hlen hg => ?_
  obtain ⟨K, fd, sp, kin, bind, want, prom⟩ := F w mg fa _ Y G.T.g hmg
  exact lawG_call kin G.T.g G.T.b G.T.builtins G.T.nolimit hg hobj hints (Nat.le_trans hlen hn2) hr prom bind (fun H o S => want H a ns hlen o S) fun H e s' => hCX H s₁ e s'
/-! ### the head: facts of one's own kind -/
def obsL (chk : PySem.W.Frag → Bool) (fn : List He.DefD) (K : PySem.W.Frag) : He.AlD := (chk K && fn.all fun d => d.ok K, fn.map fun d => He.fnW K d.at_)
def SaysL (chk : PySem.W.Frag → Bool) (fn : List He.DefD) (K : PySem.W.Frag) : Prop := obsL chk fn K = He.valD fn
def obsLG (n : Nat) (chk : PySem.W.Frag → Bool) (fn : List He.DefD) (g : Addr → Option Obj) : He.AlD := obsL chk fn (He.frG g (He.asD g n))
def hookL (n : Nat) (chk : PySem.W.Frag → Bool) (fn : List He.DefD) : PySem.W.Hook where
  α := He.AlD
  obs := fun s => obsLG n chk fn s.heap.get?
  val := fun _ => He.valD fn
  says := fun _ h => ∃ K : PySem.W.Frag, K.In h ∧ SaysL chk fn K
  of := fun _ _ e => ⟨_, He.frG_in, e⟩
  keeps := fun _ _ _ ⟨K, hK, c⟩ k => ⟨K, PySem.W.Frag.In.keeps hK k, c⟩
theorem obsLG_eq {n : Nat} {chk : PySem.W.Frag → Bool} {fn : List He.DefD} {g : Addr → Option Obj} {s : Shared} (h : ∀ a, g a = s.heap.get? a) : obsLG n chk fn g = (hookL n chk fn).obs s := by
  have e : g = s.heap.get? := funext h
  rw [e] <;> rfl
theorem SaysL.chk {chk : PySem.W.Frag → Bool} {fn : List He.DefD} {K : PySem.W.Frag} (c : SaysL chk fn K) : chk K = true :=
  (He.ba (show (chk K && fn.all fun d => d.ok K) = true from congrArg (fun z : He.AlD => z.1) c)).1
theorem SaysL.def_ {chk : PySem.W.Frag → Bool} {fn : List He.DefD} {K : PySem.W.Frag} (c : SaysL chk fn K) (i : Nat) {d : He.DefD} (h : fn[i]? = some d := by rfl) : ∃ fd, FunD K d.name d.qual d.params d.body d.scope (d.dvs K) (d.kws K) (He.fAd K d.at_) fd := by
  have c2 := (He.ba (show (chk K && fn.all fun d => d.ok K) = true from congrArg (fun z : He.AlD => z.1) c)).2
  have e2 : (fn.map fun d => He.fnW K d.at_)[i]? = (fn.map He.DefD.val)[i]? := congrArg (fun l : List He.FnW => l[i]?) (congrArg (fun z : He.AlD => z.2) c)
  rw [List.getElem?_map, List.getElem?_map, h] at e2
  exact He.DefD.funD (Option.some.inj e2) (List.all_eq_true.mp c2 d (List.mem_of_getElem? h))
end Lw

set_option Elab.async false
set_option linter.all false
set_option maxRecDepth 100000
set_option maxHeartbeats 4000000
/-! How long a shown value is. -/
namespace Lw
open PySem PySem.Spec PyProof.Rows L2
theorem join_le (ts : List Str) : (Str.join ", " ts).length ≤ piled ts := by
  cases ts with
  | nil => exact Nat.zero_le _
  | cons t r =>
    have e := join_length_add (t :: r) (by simp)
    omega
theorem textFrom_le : ∀ (ts : List Str) (k : Nat) (acc : Str), (textFrom k acc ts).length ≤ acc.length + piled ts
  | [], k, acc => Nat.le_add_right _ _
  | t :: r, k, acc => by
    have h := textFrom_le r (k + 1) (acc ++ (if k > 0 then ", " else "" : String) ++ t)
    have e : (acc ++ (if k > 0 then ", " else "" : String) ++ t).length ≤ acc.length + 2 + t.length := by
      rw [strLen_append, strLen_append]
      by_cases c : k > 0
      · rw [if_pos c]
        exact Nat.le_refl _
      · rw [if_neg c]
        show acc.length + 0 + t.length ≤ _
        omega
    have p : piled (t :: r) = t.length + 2 + piled r := by simp [piled]
    show (textFrom (k + 1) (acc ++ (if k > 0 then ", " else "" : String) ++ t) r).length ≤ _
    omega
mutual
def cost : PyData → Nat
  | .none => 4
  | .bool _ => 5
  | .int i => (toString i).length
  | .str x => (reprText x).length
  | .list xs => costAll xs + 2
  | .tuple xs => costAll xs + 3
  | .dict kvs => costKv kvs + 2
def costAll : List PyData → Nat
  | [] => 0
  | x :: xs => cost x + 2 + costAll xs
def costKv : List (PyData × PyData) → Nat
  | [] => 0
  | (k, v) :: r => cost k + 2 + cost v + 2 + costKv r
end
mutual
theorem shown_le : ∀ d : PyData, d.shown.length ≤ cost d
  | .none => by decide +kernel
  | .bool b => by cases b <;> decide +kernel
  | .int i => by
    simp only [PyData.shown, cost]
    rw [PySem.ofString_length]
    exact Nat.le_refl _
  | .str x => by
    simp only [PyData.shown, cost]
    exact Nat.le_refl _
  | .list xs => by
    simp only [PyData.shown, cost]
    have h := shownAll_le xs
    have h2 := textFrom_le (PyData.shownAll xs) 0 "["
    unfold listText
    rw [strLen_append]
    have e1 : (("[" : String) : Str).length = 1 := rfl
    have e2 : (("]" : String) : Str).length = 1 := rfl
    omega
  | .tuple xs => by
    simp only [PyData.shown, cost]
    have h := shownAll_le xs
    have h2 := join_le (PyData.shownAll xs)
    unfold tupleText
    rw [strLen_append, strLen_append]
    have e1 : (("(" : String) : Str).length = 1 := rfl
    have e2 : ((if (PyData.shownAll xs).length == 1 then ",)" else ")" : String) : Str).length ≤ 2 := by
      cases ((PyData.shownAll xs).length == 1) <;> decide +kernel
    omega
  | .dict kvs => by
    simp only [PyData.shown, cost]
    have h := shownKv_le kvs
    have h2 := join_le (PyData.shownKv kvs)
    unfold dictText
    rw [strLen_append, strLen_append]
    have e1 : (("{" : String) : Str).length = 1 := rfl
    have e2 : (("}" : String) : Str).length = 1 := rfl
    omega
theorem shownAll_le : ∀ ds : List PyData, piled (PyData.shownAll ds) ≤ costAll ds
  | [] => by simp [PyData.shownAll, piled, costAll]
  | d :: ds => by
    have h1 := shown_le d
    have h2 := shownAll_le ds
    have p : piled (PyData.shownAll (d :: ds)) = d.shown.length + 2 + piled (PyData.shownAll ds) := by simp [PyData.shownAll, piled]
    simp only [costAll]
    omega
theorem shownKv_le : ∀ kvs : List (PyData × PyData), piled (PyData.shownKv kvs) ≤ costKv kvs
  | [] => by simp [PyData.shownKv, piled, costKv]
  | (k, v) :: r => by
    have h1 := shown_le k
    have h2 := shown_le v
    have h3 := shownKv_le r
    have p : piled (PyData.shownKv ((k, v) :: r)) = (k.shown ++ ": " ++ v.shown).length + 2 + piled (PyData.shownKv r) := by simp [PyData.shownKv, piled]
    have e : (k.shown ++ ": " ++ v.shown).length = k.shown.length + 2 + v.shown.length := by
      rw [strLen_append, strLen_append]
      rfl
    simp only [costKv]
    omega
end
theorem shows_of {d : PyData} (n : Nat) (h1 : d.showable = true) (h2 : cost d ≤ n) (h3 : d.depth ≤ 60) (hn : n ≤ 100000 := by decide) : Shows d d.shown :=
  ⟨rfl, h1, by rw [sizeLine_eq]; have := shown_le d; omega, h3⟩
theorem log_small {c : Int} (h : c.natAbs < 10 ^ 400) : c.natAbs.log2 < 1920 := by
  by_cases z : c.natAbs = 0
  · rw [z]; decide
  · exact (Nat.log2_lt z).mpr (Nat.lt_of_lt_of_le h (by decide +kernel))
end Lw

set_option Elab.async false
set_option linter.all false
set_option maxRecDepth 100000
set_option maxHeartbeats 4000000
/-! Great powers, a set of a tuple's ints, a class's static def. -/
namespace Lw
open PySem PySem.Spec PyProof.Rows L2
def CPowB (i j : Int) : Prop := 0 ≤ j ∧ (Builtin.Int.intBits i : Int) * j ≤ 2 ^ 27
theorem op_powB {X : Cx} : OpR X (binaryOp .Pow) (rI CPowB fun i j => .int (i ^ j.toNat)) := opI fun _ _ _ _ _ _ _ hc q => pow_int hc.1 hc.2 q
/-- set(t), t a tuple of ints -/
def rSetT (K : PySem.W.Frag) (w : World) : List V → Hp → VK → Prop := fun xs H Q => ∃ (a : Addr) (ns : List Int), xs = [.ref a] ∧ SqT K H a (ns.map V.int) ∧ ns.length + 1 < scanBound ∧ ∀ (p : Addr) (n : Nat), H p = none → n ≤ ns.length → Q (.ref p) (upd H p (SetO w p (fun j => decide (j ∈ ns)) n))
theorem cr_setT {X : Cx} (hc : X.calm = true) : CallR X (.type "set") (rSetT X.K X.w) := by
  intro pins s σ H xs us Q I r h
  obtain ⟨a, ns, rfl, ha, hb, q⟩ := h
  obtain ⟨u, rfl, ru⟩ := r.one
  cases (show u = Value.ref a from ru)
  obtain ⟨its, rv, pt, hz⟩ := I.tuple ha
  refine call_set_tupI ns (I.ok.hd hc) (show s.heap.IsTuple a its.toArray from pt) (by simpa using ints_of_vals rv) hb fun h' tk c R hle k => ?_
  exact ⟨.ref _, _, I.laid (t' := tk) k (Nat.le_refl _) (setO_new R), rfl, q _ _ (I.hok.fresh (Nat.le_refl _)) hle⟩
/-- a class's static def at f, its wrapper at p -/
structure StaticOf (K : PySem.W.Frag) (C : Addr) (m : Str) (p f : Addr) : Prop where
  reads : PySem.W.readsIn K C (.type "type") = true
  find : PySem.W.findCls K (.ref C) (.type "type") m = some (.get (.builtin "staticmethod.__get__") (.ref p) .none (.ref C))
  sm : ∃ rest, PySem.W.recIn K p "staticmethod" = some (.ref f :: rest)
  hand : PySem.W.handedIn (.ref f) = true
  attr : PySem.W.specialIn K (.ref C) "__getattribute__" = some (some (.builtin "type.__getattribute__"))
  kp : PySem.W.keepIn K (.ref f) = true
/-- C.m(e, ..) -/
theorem pe_static {X : Cx} {CX : CXT} {k : Nat} {C p f : Addr} {x m : Str} {np apos pos : Pos} {fd : FuncData} {ps : List Str} {sp : Sp} {dvs : List V} {ds : List Value} {E : XK} {e : Expr} {es : List Expr} {t : TA} {pl : Sem Bool}
    (S : StaticOf X.K C m p f) (F : FnOk X.prog X.w X.K X.mg X.base CX k f fd ps sp) (hr : Room k X.A) (hg : Gl X x) (hm : X.mg x = some (.ref C)) (hb : Binds X.K fd ps ds) (hd : Vals dvs ds) (hx : Passes CX X E) (ha : PA X (e :: es) t)
    (hdb : (x == ("__debug__" : Str)) = false := by decide) (he : starEach (e :: es) X.env = (false, eval e X.env) :: starEach es X.env := by rfl) (hpl : (backTo pos (starEach es X.env)).any (·.1) = false := by rfl)
    (ht : eval (.Call (.Attribute (.Name x np) m apos) (e :: es) [] pos) X.env = (do
      let ov ← eval (.Name x np) X.env
      standAt apos.atName
      let (f, first) ← holding [ov] (getMethod ov m pl)
      callWith pos f first (backTo pos (starEach (e :: es) X.env)) (backToKw pos (keywordEach [] X.env))) := by rfl) : PE X (.Call (.Attribute (.Name x np) m apos) (e :: es) [] pos) (tCall sp dvs E t) := by
  refine ⟨fun pins s σ H Q I h => PySem.W.methodCall_KW (pl := pl) (ld_glob I hg hm ?_ hdb) ht⟩
  obtain ⟨rest, hrec⟩ := S.sm
  refine PySem.W.method_cls I.kIn S.attr (PySem.W.cls_bind I.kIn S.reads S.find (wpAny_call (PySem.W.sm_get (s := { s with toks := s.toks + 1 }) I.kIn hrec (PySem.W.handed_on S.hand ?_))))
  have I2 : Inv X pins σ H { s with toks := s.toks + 1 } := I.tok _
  refine PySem.W.callWith_K (h₀ := X.base) I2.ok.mod.kin S.kp (thn (ha.run pos pins { s with toks := s.toks + 1 } σ H _ I2 h) fun us s1 hh => ?_) he hpl
  obtain ⟨vs, H1, I1, r, q⟩ := hh
  exact ⟨I1.kIn, run_fn F hr hb hd hx I1 r q⟩
end Lw

set_option Elab.async false
set_option linter.all false
set_option maxRecDepth 100000
set_option maxHeartbeats 4000000
/-! Operators that an own class defines: | and & (any binary one), in, ==, and != by its own ==. -/
namespace Lw
open PySem PySem.Spec PyProof.Rows L2
theorem ins_inst {X : Cx} {pins : List (Addr × Obj)} {σ : L2.St} {H : Hp} {s : Shared} {a C dx : Addr} {fs : List (Str × V)} (I : Inv X pins σ H s) (h : H a = some (.ins C dx fs)) : ∃ ox od, PySem.W.InstAt s.heap a ox C (some od) := by
  obtain ⟨m, O, _⟩ := ins_get I.hok h
  obtain ⟨od, J, _⟩ := O.look
  exact ⟨_, od, J⟩
section
variable {X : Cx} {CX : CXT} {k : Nat} {C f : Addr} {fd : FuncData} {p1 p2 : Str} {sp : Sp} {E : XK}
def rOwnB (C : Addr) (sp : Sp) (E : XK) : R2 := fun x y H Q => ∃ (a dx b dy : Addr) (fs gs : List (Str × V)), x = .ref a ∧ y = .ref b ∧ H a = some (.ins C dx fs) ∧ H b = some (.ins C dy gs) ∧ sp [.ref a, .ref b] H Q E
theorem op_ownB {op : Operator} (hs : PySem.W.findIn X.K (.ref C) (PySem.dunder op.info.2) = some (some (.ref f))) (hf : PySem.W.isFn X.K (.ref f) = true) (hc : PySem.W.selfFirst X.K C = true)
    (F : FnOk X.prog X.w X.K X.mg X.base CX k f fd [p1, p2] sp) (hr : Room k X.A) (hb : Binds X.K fd [p1, p2] []) (hx : Passes CX X E) : OpR X (binaryOp op) (rOwnB C sp E) := by
  intro pins s σ H x y v u Q I rx ry h
  obtain ⟨a, dx, b, dy, fs, gs, rfl, rfl, ha, hbb, q⟩ := h
  cases (show v = Value.ref a from rx)
  cases (show u = Value.ref b from ry)
  obtain ⟨ox, od, J⟩ := ins_inst I ha
  obtain ⟨oy, oe, J'⟩ := ins_inst I hbb
  obtain ⟨m, fr⟩ := I.fr
  refine PySem.W.binop_K fr I.ok.mod.kin J J'.type hc hs hf (wpAny_mono (run_fn (us := [.ref a, .ref b]) (vs := [.ref a, .ref b]) F hr hb .nil hx I (.cons rfl (.cons rfl .nil)) q) (fun w s' z => ?_) fun _ _ z => z)
  obtain ⟨z', H', I', rz, qz⟩ := z
  exact SlX.cmpback rz ⟨z', H', I', rz, qz⟩
/-- x in y, y such an instance -/
def rOwnIn (C : Addr) (sp : Sp) (E : XK) : R2 := fun x y H Q => ∃ (b dy : Addr) (gs : List (Str × V)), y = .ref b ∧ H b = some (.ins C dy gs) ∧ sp [.ref b, x] H (fun r H' => ∃ c, r = .bl c ∧ Q (.bl c) H') E
theorem op_ownIn (hs : PySem.W.findIn X.K (.ref C) "__contains__" = some (some (.ref f))) (hf : PySem.W.isFn X.K (.ref f) = true)
    (F : FnOk X.prog X.w X.K X.mg X.base CX k f fd [p1, p2] sp) (hr : Room k X.A) (hb : Binds X.K fd [p1, p2] []) (hx : Passes CX X E) : OpR X (compareOp .In) (rOwnIn C sp E) := by
  intro pins s σ H x y v u Q I rx ry h
  obtain ⟨b, dy, gs, rfl, hbb, q⟩ := h
  cases (show u = Value.ref b from ry)
  obtain ⟨oy, oe, J⟩ := ins_inst I hbb
  obtain ⟨m, fr⟩ := I.fr
  refine PySem.W.in_K fr I.ok.mod.kin J hs hf (wpAny_mono (run_fn (us := [.ref b, v]) (vs := [.ref b, x]) F hr hb .nil hx I (.cons rfl (.cons rx .nil)) q) (fun w s' z => ?_) fun _ _ z => z)
  obtain ⟨z', H', I', rz, c, rfl, qz⟩ := z
  cases (show w = Value.bool c from rz)
  exact wpAny_truthy_bool ⟨.bl c, H', I', rfl, qz⟩
/-- x == y, x such an instance, y of a class that is not below it -/
def rOwnEq (K : PySem.W.Frag) (C : Addr) (sp : Sp) (E : XK) : R2 := fun x y H Q => ∃ (a dx : Addr) (fs : List (Str × V)) (t : Value), x = .ref a ∧ H a = some (.ins C dx fs) ∧ TyX K H y t ∧ PySem.W.notFirst K C t = true ∧ sp [.ref a, y] H Q E
theorem op_ownEq (hs : PySem.W.findIn X.K (.ref C) "__eq__" = some (some (.ref f))) (hf : PySem.W.isFn X.K (.ref f) = true)
    (F : FnOk X.prog X.w X.K X.mg X.base CX k f fd [p1, p2] sp) (hr : Room k X.A) (hb : Binds X.K fd [p1, p2] []) (hx : Passes CX X E) : OpR X (compareOp .Eq) (rOwnEq X.K C sp E) := by
  intro pins s σ H x y v u Q I rx ry h
  obtain ⟨a, dx, fs, t, rfl, ha, ty, hn, q⟩ := h
  cases (show v = Value.ref a from rx)
  obtain ⟨ox, od, J⟩ := ins_inst I ha
  obtain ⟨P, Z, p, _⟩ := kit_of I ry ty
  obtain ⟨m, fr⟩ := I.fr
  have hu : X.A.units < cLine := by have := hr.un; omega
  show wpAny _ _ (richCompare .Eq (.ref a) u) _ _ _
  refine PySem.W.cmp_K (op := .Eq) hu fr I.ok.mod.kin J (Z.ty _ _ I.kIn p) hn hs hf (wpAny_mono (run_fn (us := [.ref a, u]) (vs := [.ref a, y]) F hr hb .nil hx I (.cons rfl (.cons ry .nil)) q) (fun w s' z => ?_) fun _ _ z => z)
  obtain ⟨z', H', I', rz, qz⟩ := z
  exact SlX.cmpback rz ⟨z', H', I', rz, qz⟩
end
end Lw
namespace Lw
open PySem PySem.Spec PyProof.Rows L2
section
variable {prog : Program} {w : World} {A : Around} {E : Value → Shared → Prop} {s : Shared} {K : PySem.W.Frag} {x C f : Addr} {ox : Obj} {od : Option Obj} {b tb : Value}
theorem bound_slot {M : Model} {id : String} {name : Str} {args : List Value} {Q : Option Value → Shared → Prop} (X : K.In s.heap) (I : PySem.W.InstAt s.heap x ox C od) (hs : PySem.W.findIn K (.ref C) name = some (some (.builtin id)))
    (S : ∀ self, bindSpecial (.builtin id) self = pure (.builtin id, [self])) (h : wpAny M A (call (.builtin id) (.ref x :: args)) (fun v => Q (some v)) E s) : wpAny M A (callSpecialIfBound? (.ref x) name args) Q E s := by
  have fin : wpAny M A (call (.builtin id) ([.ref x] ++ args) >>= fun v => pure (some v)) Q E s := wpAny_bind (wpAny_mono h (fun _ _ z => wpAny_pure z) fun _ _ z => z)
  simp only [callSpecialIfBound?, bindSpecialIfBound?]
  refine wpAny_holding (wpAny_bind (wpAny_bind (wpAny_bind (I.type.here ((PySem.W.looks_findIn X hs).here ?_)))))
  simp only [S]
  refine wpAny_bind (wpAny_askSetting (wpAny_ite ?_))
  split
  · exact wpAny_bind (wpAny_pure (wpAny_pure fin))
  · exact wpAny_tryCatch (wpAny_bind (wpAny_pure (wpAny_pure fin)))
/-- x.__ne__(b) as object has it, by the class's own __eq__ -/
theorem call_objNe {Q : Value → Shared → Prop} (hu : A.units + 1 < cLine) (X : K.In s.heap) (I : PySem.W.InstAt s.heap x ox C od) (hm : PySem.W.mroIn K C (.type "object") = some true) (hs : PySem.W.findIn K (.ref C) "__eq__" = some (some (.ref f)))
    (hf : PySem.W.isFn K (.ref f) = true) (h : wpAny (model prog w) A.in1 (call (.ref f) [.ref x, b]) (fun v s' => ∃ c, v = .bool c ∧ Q (.bool (!c)) s') E s) : wpAny (model prog w) A (call (.builtin "object.__ne__") [.ref x, b]) Q E s := by
  have sub : PySem.W.Looks (model prog w) s.heap (isInstance (.ref x) (.type "object")) true := I.type.andThen (PySem.W.looks_mroIn X hm)
  refine wpAny_call (codeAny_call_builtin PySem.F.cmp_object.ne.plain PySem.F.cmpEntry_ne (PySem.W.check_slot PySem.F.cmpKind_ne PySem.F.cmpSplit_ne sub (PySem.F.cmpArgs_ne _ _) ?_))
  unfold Builtin.«object.__ne__»
  refine wpAny_bind (wpAny_of_eq (a := ((Value.ref x : Value), [b])) (by first | rfl | (simp only [slotArgs]; rfl)) ?_)
  refine wpAny_bind (wpAny_cRoomFor hu ?_)
  refine wpAny_bind (PySem.W.ifBound_K X I hs hf (wpAny_mono h (fun v s' hv => ?_) fun _ _ z => z))
  obtain ⟨c, rfl, q⟩ := hv
  exact wpAny_bind (wpAny_truthy_bool (wpAny_pure q))
theorem ne_K {Q : Value → Shared → Prop} (hu : A.units + 1 < cLine) (X : K.In s.heap) (I : PySem.W.InstAt s.heap x ox C od) (hb : PySem.W.Looks (model prog w) s.heap (typeOf b) tb) (hn : PySem.W.notFirst K C tb = true) (hm : PySem.W.mroIn K C (.type "object") = some true)
    (hne : PySem.W.findIn K (.ref C) "__ne__" = some (some (.builtin "object.__ne__"))) (hs : PySem.W.findIn K (.ref C) "__eq__" = some (some (.ref f))) (hf : PySem.W.isFn K (.ref f) = true)
    (h : wpAny (model prog w) A.in1 (call (.ref f) [.ref x, b]) (fun v s' => ∃ c, v = .bool c ∧ Q (.bool (!c)) s') E s) : wpAny (model prog w) A (richCompare .NotEq (.ref x) b) Q E s := by
  have z1 : wpAny (model prog w) A (callSpecialIfBound? (.ref x) "__ne__" [b]) (fun r s' => ∃ c, r = some (.bool c) ∧ Q (.bool c) s') E s :=
    bound_slot (Q := fun r s' => ∃ c, r = some (.bool c) ∧ Q (.bool c) s') X I hne PySem.F.cmp_object.ne.bind
      (wpAny_mono (call_objNe (Q := fun v s' => ∃ c, v = .bool c ∧ Q (.bool c) s') hu X I hm hs hf (wpAny_mono h (fun v s' ⟨c, e, q⟩ => ⟨c, e, !c, rfl, q⟩) fun _ _ z => z)) (fun v s' ⟨c, e, q⟩ => ⟨c, by rw [e], q⟩) fun _ _ z => z)
  have one : wpAny (model prog w) A (tryCompare (.ref x) "__ne__" b) (fun r s' => ∃ c, r = some (.bool c) ∧ Q (.bool c) s') E s := by
    unfold tryCompare
    refine wpAny_bind (wpAny_mono z1 (fun r s' hv => ?_) fun _ _ z => z)
    obtain ⟨c, rfl, q⟩ := hv
    exact wpAny_pure ⟨c, rfl, q⟩
  unfold richCompare
  simp only [PySem.oneThing_ref]
  refine wpAny_holding (wpAny_bind (wpAny_cRoomFor (by omega) (wpAny_bind (I.type.here (wpAny_bind (hb.here ?_))))))
  have fin : ∀ (k : Option Value → Sem Value), (∀ c s', Q (.bool c) s' → wpAny (model prog w) A (k (some (.bool c))) Q E s') → wpAny (model prog w) A (tryCompare (.ref x) "__ne__" b >>= k) Q E s := fun k hk => by
    refine wpAny_bind (wpAny_mono one (fun r s' hv => ?_) fun _ _ z => z)
    obtain ⟨c, rfl, q⟩ := hv
    exact hk c s' q
  split
  · rename_i q
    have e : PySem.W.subIn K tb (.ref C) = some false := by
      rcases Bool.or_eq_true_iff.mp hn with e | e
      · rw [beq_iff_eq.mp e] at q
        simp at q
      · exact beq_iff_eq.mp e
    refine wpAny_bind ((PySem.W.looks_subIn X e).here ?_)
    simp only [Bool.false_eq_true, if_false]
    exact fin _ fun c s' q => wpAny_pure q
  · refine wpAny_bind (wpAny_pure ?_)
    simp only [Bool.false_eq_true, if_false]
    exact fin _ fun c s' q => wpAny_pure q
end
section
variable {X : Cx} {CX : CXT} {k : Nat} {C f : Addr} {fd : FuncData} {p1 p2 : Str} {sp : Sp} {E : XK}
/-- x != y, by the class's own == -/
def rOwnNe (K : PySem.W.Frag) (C : Addr) (sp : Sp) (E : XK) : R2 := fun x y H Q => ∃ (a dx : Addr) (fs : List (Str × V)) (t : Value), x = .ref a ∧ H a = some (.ins C dx fs) ∧ TyX K H y t ∧ PySem.W.notFirst K C t = true ∧ sp [.ref a, y] H (fun r H' => ∃ c, r = .bl c ∧ Q (.bl (!c)) H') E
theorem op_ownNe (hm : PySem.W.mroIn X.K C (.type "object") = some true) (hne : PySem.W.findIn X.K (.ref C) "__ne__" = some (some (.builtin "object.__ne__"))) (hs : PySem.W.findIn X.K (.ref C) "__eq__" = some (some (.ref f))) (hf : PySem.W.isFn X.K (.ref f) = true)
    (F : FnOk X.prog X.w X.K X.mg X.base CX k f fd [p1, p2] sp) (hr : Room (k + 1) X.A) (hb : Binds X.K fd [p1, p2] []) (hx : Passes CX X E) : OpR X (compareOp .NotEq) (rOwnNe X.K C sp E) := by
  intro pins s σ H x y v u Q I rx ry h
  obtain ⟨a, dx, fs, t, rfl, ha, ty, hn, q⟩ := h
  cases (show v = Value.ref a from rx)
  obtain ⟨ox, od, J⟩ := ins_inst I ha
  obtain ⟨P, Z, p, _⟩ := kit_of I ry ty
  have hu : X.A.units + 1 < cLine := by have := hr.un; omega
  show wpAny _ _ (richCompare .NotEq (.ref a) u) _ _ _
  refine ne_K hu I.kIn J (Z.ty _ _ I.kIn p) hn hm hne hs hf ?_
  have hl : ([Value.ref a, u] ++ ([] : List Value)).length = [p1, p2].length := rfl
  refine wpAny_call (codeAny_mono (F.run X.A.in1 X.stack s H ⟨[.ref a, u], []⟩ [.ref a, u] [.ref a, y] _ E hr.in1 I.env0.in1 (hb s [.ref a, u] I.kIn hl) (.cons rfl (.cons ry .nil)) q) fun res s' hs' => ?_)
  match res, hs' with
  | .error er, hs' => exact hx pins σ H s er s' I hs'
  | .ok (.ret z), hs' =>
    obtain ⟨v2, H', I', rz, c, rfl, qz⟩ := I.after hs'
    cases (show z = Value.bool c from rz)
    exact ⟨c, rfl, .bl (!c), H', I', rfl, qz⟩
  | .ok .next, hs' => exact hs'.elim
  | .ok .brk, hs' => exact hs'.elim
  | .ok .cont, hs' => exact hs'.elim
end
end Lw

set_option Elab.async false
set_option linter.all false
set_option maxRecDepth 100000
set_option maxHeartbeats 4000000
/-! enumerate over a tuple. -/
namespace Lw
open PySem PySem.Spec PyProof.Rows L2
theorem meets_enum1 {v : Value} {o : Obj} {G : Heap → Prop} (B : Begins v o G) :
    Meets (Builtin.«enumerate.__new__» ⟨[.type "enumerate", v], []⟩) (fun _ R s => G s.heap ∧
      R (.ok (.ret (.ref (s.heap.push o).objs.size))) { s with heap := (s.heap.push o).push { cls := .type "enumerate", data := .fields #[.none, .bool false, .ref s.heap.objs.size, rawInt 0, .none, .none] } }) :=
  .of_wp fun prog w A R s hs => by
    obtain ⟨hh, gs, dr, t, os⟩ := s
    obtain ⟨g1, r1⟩ := hs
    have sb := sub_enumerate
    have it : ∀ {A' : Around} {E : Value → Shared → Prop} {Q : Value → Shared → Prop}, Q (.ref hh.objs.size) ⟨hh.push o, gs, dr, t, os⟩ → wpAny (model prog w) A' (pyIter v) Q E ⟨hh, gs, dr, t, os⟩ := fun q => B.iter prog w _ _ ⟨hh, gs, dr, t, os⟩ _ g1 q
    wp_walk using it
    refine wpAny_stack_any fun st => wpAny_pure ?_
    split
    · rename_i tp _ _ _ _ _
      by_cases z : (tp == Value.type "enumerate") = true
      · rw [z]
        wp_walk using it
        exact ⟨_, rfl, r1⟩
      · rw [Bool.eq_false_iff.mpr z]
        wp_walk using it
        exact ⟨_, rfl, r1⟩
    · wp_walk using it
      exact ⟨_, rfl, r1⟩
theorem call_enum1 {prog : Program} {w : World} {A : Around} {E : Value → Shared → Prop} {s : Shared} {v : Value} {o : Obj} {G : Heap → Prop} {Q : Value → Shared → Prop} (B : Begins v o G) (h1 : G s.heap)
    (h : ∀ h', IsEnum h' (s.heap.objs.size + 1) s.heap.objs.size 0 .none → h'.get? s.heap.objs.size = some o → (∀ b u, s.heap.get? b = some u → h'.get? b = some u) → Q (.ref (s.heap.objs.size + 1)) { s with heap := h' }) :
    wpAny (model prog w) A (call (.type "enumerate") [v]) Q E s := by
  refine callType_new F.called_enumerate (by decide) (F.typeCall_enumerate_1 _) (F.newCall_enumerate_1 _) (fun obj => F.args_object_init_2 obj _) F.entry_enumerate_new (meets_enum1 B) ⟨h1, ?_⟩
  have sz : (s.heap.push o).objs.size = s.heap.objs.size + 1 := Heap.size_push ..
  have at_ : IsEnum ((s.heap.push o).push { cls := .type "enumerate", data := .fields #[.none, .bool false, .ref s.heap.objs.size, rawInt 0, .none, .none] }) (s.heap.objs.size + 1) s.heap.objs.size 0 .none := by
    rw [← sz]
    exact Heap.get?_push_size (s.heap.push o) rfl
  rw [sz]
  exact ⟨⟨_, at_, rfl⟩, h _ at_ (Heap.get?_push_of_some _ (Heap.get?_push_size _ B.free)) fun b u z => Heap.get?_push_of_some _ (Heap.get?_push_of_some _ z)⟩
/-- the tuple at a, each item in a new pair -/
def IteT (K : PySem.W.Frag) (a : Addr) : It :=
  ⟨fun i H => ∃ (xs : List V) (x : V), SqT K H a xs ∧ xs[i]? = some x, fun i H v H' => ∃ T x, v = .ref T ∧ H T = none ∧ H' = upd H T (.tup [.int (i : Nat), x]) ∧ ∀ xs, SqT K H a xs → xs[i]? = some x, fun i H => ∃ xs : List V, SqT K H a xs ∧ xs.length = i⟩
theorem turn_enumT {P : Program} {w : World} {K : PySem.W.Frag} {elts : List Expr} {kk : Nat} {tpos : Pos} (a e it : Addr) :
    Turn P w K (.Tuple elts kk tpos) (IteT K a) [e, it] e (fun i h => (∃ old, IsEnum h e it ((i : Nat) : Int) old) ∧ h.IsTupleIter it a i ∧ e ≠ it ∧ a ≠ it ∧ e ≠ a) where
  mem := List.mem_cons_self
  obj := fun i h st b hb => by
    obtain ⟨⟨old, he⟩, ⟨o, ho, hc, hd⟩, _⟩ := st
    rcases List.mem_cons.mp hb with z | z
    · rw [z]; exact ⟨_, he, fun v q => nomatch q⟩
    · rw [List.mem_singleton.mp z]; exact ⟨o, ho, fun v q => by rw [hd] at q; cases q⟩
  keep := fun i h h' st k => by
    obtain ⟨⟨old, he⟩, hi, n1, n2, n3⟩ := st
    exact ⟨⟨old, k e (by simp) _ he⟩, hi.at fun o q => k it (by simp) o q, n1, n2, n3⟩
  item := by
    intro X hP hw hK hc i pins s σ H E I hf st hg
    subst hP hw hK
    obtain ⟨⟨old, he⟩, hit, n1, n2, n3⟩ := st
    obtain ⟨xs, x, hq, hx⟩ := hg
    obtain ⟨its, rv, p, _⟩ := I.tuple hq
    obtain ⟨u, hu, ru⟩ := rv.get hx
    have hel : e < s.heap.objs.size := Heap.lt_size he
    have hil : it < s.heap.objs.size := by obtain ⟨_, q, _⟩ := hit; exact Heap.lt_size q
    have hlt : i < its.toArray.size := by
      have := (List.getElem?_eq_some_iff.mp hu).1
      simpa using this
    refine wpAny_pyNext_enum_itemC (Draws.tuple (A := X.A.in1) (I.ok.hd hc) it a n2 its.toArray) he ⟨hit, p⟩ hlt n1 (by simp [n1, n3]) fun y h' tk hy ho st' hT hsz hk => ?_
    have ey : y = u := by
      have hy' : its[i]? = some y := by simpa using hy
      rw [hu] at hy'
      exact (Option.some.inj hy').symm
    subst ey
    refine ⟨_, rfl, wpAny_letOwnedTupleGo_enum (s := { s with heap := h', toks := tk + 1 }) ho fun h'' he' sb => ?_⟩
    have gT : h''.get? s.heap.objs.size = some { cls := .type "tuple", data := .seq #[.int i tk, y] } := (sb.2 _ (Nat.ne_of_gt hel)).trans hT
    have new : ObjOk X.prog X.w (upd H s.heap.objs.size (.tup [.int (i : Nat), x])) h'' s.heap.objs.size (.tup [.int (i : Nat), x]) :=
      ⟨by show 2 ≤ sizeLine; decide, [.int i tk, y], .cons ⟨_, rfl⟩ (.cons ru .nil), ⟨_, gT, rfl, _, rfl⟩⟩
    have old2 : ∀ b ob, b ∉ [e, it] → s.heap.get? b = some ob → h''.get? b = some ob := fun b ob hb q => (sb.2 b (fun z => hb (by simp [z]))).trans (hk b ob (fun z => hb (by simp [z])) (fun z => hb (by simp [z])) q)
    have I1 : Inv X pins σ (upd H s.heap.objs.size (.tup [.int (i : Nat), x])) { s with heap := h'', toks := tk + 1 } := I.turnedNew (ch := [e, it]) old2 hf (Nat.le_refl _) new
    refine ⟨.ref s.heap.objs.size, _, I1, rfl, ⟨_, x, rfl, I.hok.fresh (Nat.le_refl _), rfl, fun ys hy => by rw [I.tuple_inj hy hq]; exact hx⟩, ⟨⟨y, ?_⟩, st'.1.at fun o q => (sb.2 it (Ne.symm n1)).trans q, n1, n2, n3⟩, fun b hb => ?_⟩
    · rw [show ((i + 1 : Nat) : Int) = (i : Int) + 1 by omega]
      exact he'
    · have lb : b < s.heap.objs.size := by
        rcases List.mem_cons.mp hb with z | z
        · rw [z]; exact hel
        · rw [List.mem_singleton.mp z]; exact hil
      rw [upd_ne (Nat.ne_of_lt lb)]
      exact (hf b hb).1
  done := by
    intro X hP hw hK hc i pins s σ H E I hf st hg
    subst hP hw hK
    obtain ⟨⟨old, he⟩, hit, n1, n2, n3⟩ := st
    obtain ⟨xs, hq, hx⟩ := hg
    obtain ⟨its, rv, p, _⟩ := I.tuple hq
    obtain ⟨f0, f1, f2, f3, f4, f5⟩ := hf it (by simp)
    have hl := rv.length
    have hn : its.toArray.size = i := by simp; omega
    have D := Draws.tuple (prog := X.prog) (w := X.w) (A := X.A.in1) (I.ok.hd hc) it a n2 its.toArray
    rw [hn] at D
    exact wpAny_pyNext_enum_endD D he ⟨hit, p⟩ fun h' eb => ⟨rfl, I.turned (t' := s.toks) (fun b o hb q => eb b o hb q) f0 f1 f3 f4 f5⟩
  self := fun A i s Q E st h => by
    obtain ⟨⟨_, he⟩, _⟩ := st
    exact wpAny_pyIter_enum he h
def iEnumT (K : PySem.W.Frag) (ta : TA) : TI := fun σ H R => ta σ H fun vs H1 => ∃ a xs, vs = [.ref a] ∧ SqT K H1 a xs ∧ R (IteT K a) H1
theorem pi_enumT {X : Cx} {e : Expr} {ta : TA} {p pos tpos : Pos} {elts : List Expr} {kk : Nat} (hg : Gl X "enumerate") (hm : X.mg "enumerate" = none) (ha : PA X [e] ta) (hs : starEach [e] X.env = [(false, eval e X.env)] := by rfl) :
    PI X (.Tuple elts kk tpos) (.Call (.Name "enumerate" p) [e] [] pos) (iEnumT X.K ta) := by
  refine ⟨fun pins s σ H R I h => Call_ (ld_blt I hg hm boot_enumerate (PyProof.Rows.callWith_type1 (thn (ha.run pos pins s σ H _ I h) fun us s1 hh => ?_) hs rfl))⟩
  obtain ⟨vs, H1, I1, r1, a, xs, rfl, hq, q⟩ := hh
  obtain ⟨u, rfl, ru⟩ := r1.one
  cases (show u = Value.ref a from ru)
  obtain ⟨its, rv, pt, hz⟩ := I1.tuple hq
  have hal : a < s1.heap.objs.size := by obtain ⟨o, ho, _⟩ := pt; exact Heap.lt_size ho
  refine call_enum1 (begins_tuple a its.toArray) pt fun h' he hi hk => wpAny_pyIter_enum he ?_
  have I2 : Inv X pins σ H1 { s1 with heap := h' } := I1.kept (t' := s1.toks) hk
  refine ⟨s1.heap.objs.size + 1, [s1.heap.objs.size + 1, s1.heap.objs.size], _, _, H1, rfl, I2, turn_enumT a (s1.heap.objs.size + 1) s1.heap.objs.size, ⟨⟨.none, he⟩, ⟨_, hi, rfl, rfl⟩, Nat.succ_ne_self _, Nat.ne_of_lt hal, Nat.ne_of_gt (Nat.lt_succ_of_lt hal)⟩, fun b hb => ?_, q⟩
  have big : s1.heap.objs.size ≤ b := by
    rcases List.mem_cons.mp hb with z | z
    · rw [z]; exact Nat.le_succ _
    · exact Nat.le_of_eq (List.mem_singleton.mp z).symm
  exact I1.fpOk big (I1.hok.fresh big)
theorem walk_enumT {K : PySem.W.Frag} {a : Addr} {xs : List V} : Walk (IteT K a) xs.length (fun H => SqT K H a xs) (YPair (fun i => some (.int (i : Nat))) (fun i => xs[i]?)) := by
  refine ⟨fun i _ hi q => ⟨xs, xs[i], q, by simp [hi]⟩, fun _ q => ⟨xs, q, rfl⟩, fun i H v H' _ q y => ?_⟩
  obtain ⟨T, x, h1, h2, h3, h4⟩ := y
  exact ⟨T, .int (i : Nat), x, h1, h2, h3, rfl, h4 xs q⟩
end Lw

set_option Elab.async false
set_option linter.all false
set_option maxRecDepth 100000
set_option maxHeartbeats 4000000
/-! list(zip(t, u)) of two tuples: the pairs stay out in the list. -/
namespace Lw
open PySem PySem.Spec PyProof.Rows L2 RZ
section
variable {prog : Program} {w : World} {A : Around} {E : Value → Shared → Prop} {s : Shared} {z TI TO T i1 i2 l1 l2 : Addr} {f : Bool} {oT : Obj} {k1 k2 : Nat} {xs ys : Array Value}
/-- a pair is out: the next one is a new one -/
theorem heldT_item {x y : Value} {Q : Value → Shared → Prop} (D : ZipApart z TI TO i1 i2 l1 l2) (hz : IsZipHeld s.heap z TI TO T f) (hT : s.heap.get? T = some oT) (hp : IsPair s.heap TI (.ref i1) (.ref i2))
    (a1 : s.heap.IsTupleIter i1 l1 k1) (a2 : s.heap.IsTupleIter i2 l2 k2) (b1 : s.heap.IsTuple l1 xs) (b2 : s.heap.IsTuple l2 ys) (hx : xs[k1]? = some x) (hy : ys[k2]? = some y)
    (hQ : ∀ h', IsZipHeld h' z TI TO T true → h'.IsTupleIter i1 l1 (k1 + 1) → h'.IsTupleIter i2 l2 (k2 + 1) → IsPair h' s.heap.objs.size x y → h'.objs.size = s.heap.objs.size + 1 →
      (∀ c o, c ≠ z → c ≠ i1 → c ≠ i2 → s.heap.get? c = some o → h'.get? c = some o) → Q (.ref s.heap.objs.size) { s with heap := h' }) :
    wpAny (model prog w) A (Builtin.«zip.__next__» ⟨[.ref z], []⟩) (fun fin s' => ∃ v, fin = .done (.ret v) ∧ Q v s') E s := by
  show wpAny _ A (field (.ref z) 2 >>= _) _ E s
  refine wpAny_bind (wpAny_field (x := .bool false) hz rfl rfl ?_)
  show wpAny _ A (field (.ref z) 3 >>= _) _ E s
  refine wpAny_bind (wpAny_field (x := .ref TI) hz rfl rfl (wpAny_bind (wpAny_seqItems hp rfl ?_)))
  show wpAny _ A (Builtin.SmallTypes.ownedTupleIsFree (.ref z) >>= _) _ E s
  refine wpAny_bind (wpAny_tupleHeld_zip hz hT fun g1 z1 e1 => ?_)
  rw [if_neg Bool.false_ne_true]
  refine wpAny_bind ?_
  rw [← Array.forIn_toList]
  simp only [List.forIn_nil, List.forIn_cons]
  refine wpAny_bind (wpAny_bind (wpAny_holding ?_))
  show wpAny _ A (Builtin.SmallTypes.nextOf (.ref i1) >>= _) _ E _
  refine wpAny_bind (nextOf_tuple_item (s := { s with heap := g1 }) (a1.extBut e1.extBut D.i1z) (b1.extBut e1.extBut D.l1z) hx fun g2 c1 e2 => wpAny_pure (wpAny_pure ?_))
  refine wpAny_bind (wpAny_bind (wpAny_holding ?_))
  show wpAny _ A (Builtin.SmallTypes.nextOf (.ref i2) >>= _) _ E _
  refine wpAny_bind (nextOf_tuple_item (s := { s with heap := g2 }) ((a2.extBut e1.extBut D.i2z).extBut e2.extBut D.i12.symm) ((b2.extBut e1.extBut D.l2z).extBut e2.extBut D.l2i1) hy fun g3 c2 e3 => wpAny_pure (wpAny_pure (wpAny_pure ?_)))
  show wpAny _ A (newTuple [x, y] >>= _) _ E _
  refine wpAny_bind (wpAny_newTuple ?_)
  have n3 : g3.objs.size = s.heap.objs.size := (e3.1.trans e2.1).trans e1.1
  have z3 : IsZipHeld g3 z TI TO T true := e3.extBut _ _ D.i2z.symm (e2.extBut _ _ D.i1z.symm z1)
  have k3 : ∀ c o, c ≠ z → c ≠ i1 → c ≠ i2 → s.heap.get? c = some o → g3.get? c = some o := fun c o n1 n2 n4 q => e3.extBut _ _ n4 (e2.extBut _ _ n2 (e1.extBut _ _ n1 q))
  have c3 : g3.IsTupleIter i1 l1 (k1 + 1) := c1.extBut e3.extBut D.i12
  refine wpAny_pure ⟨_, rfl, ?_⟩
  show Q (.ref g3.objs.size) _
  have pn : IsPair (g3.push { cls := .type "tuple", data := .seq #[x, y] }) g3.objs.size x y := Heap.get?_push_size g3 rfl
  have pz : (g3.push { cls := .type "tuple", data := .seq #[x, y] }).objs.size = g3.objs.size + 1 := Heap.size_push ..
  rw [n3] at pn pz ⊢
  exact hQ _ (Heap.get?_push_of_some _ z3) (c3.at fun _ q => Heap.get?_push_of_some _ q) (c2.at fun _ q => Heap.get?_push_of_some _ q) pn pz fun c o n1 n2 n4 q => Heap.get?_push_of_some _ (k3 c o n1 n2 n4 q)
theorem heldT_end {Q : Fin → Shared → Prop} (hh : A.handled = none) (D : ZipApart z TI TO i1 i2 l1 l2) (hz : IsZipHeld s.heap z TI TO T f) (hT : s.heap.get? T = some oT) (hp : IsPair s.heap TI (.ref i1) (.ref i2))
    (a1 : s.heap.IsTupleIter i1 l1 k1) (b1 : s.heap.IsTuple l1 xs) (hx : xs[k1]? = none)
    (hE : ∀ h' e, (∀ c o, c ≠ z → c ≠ i1 → c ≠ i2 → s.heap.get? c = some o → h'.get? c = some o) → (∃ o, h'.get? e = some o ∧ o.cls = .type "StopIteration") → E (.ref e) { s with heap := h' }) :
    wpAny (model prog w) A (Builtin.«zip.__next__» ⟨[.ref z], []⟩) Q E s := by
  show wpAny _ A (field (.ref z) 2 >>= _) Q E s
  refine wpAny_bind (wpAny_field (x := .bool false) hz rfl rfl ?_)
  show wpAny _ A (field (.ref z) 3 >>= _) Q E s
  refine wpAny_bind (wpAny_field (x := .ref TI) hz rfl rfl (wpAny_bind (wpAny_seqItems hp rfl ?_)))
  show wpAny _ A (Builtin.SmallTypes.ownedTupleIsFree (.ref z) >>= _) Q E s
  refine wpAny_bind (wpAny_tupleHeld_zip hz hT fun g1 z1 e1 => ?_)
  rw [if_neg Bool.false_ne_true]
  refine wpAny_bind ?_
  rw [← Array.forIn_toList]
  simp only [List.forIn_nil, List.forIn_cons]
  refine wpAny_bind (wpAny_bind (wpAny_holding ?_))
  show wpAny _ A (Builtin.SmallTypes.nextOf (.ref i1) >>= _) _ E _
  exact wpAny_bind (nextOf_tuple_end (s := { s with heap := g1 }) hh (a1.extBut e1.extBut D.i1z) (b1.extBut e1.extBut D.l1z) hx fun g2 e e2 he => hE g2 e (fun c o n1 n2 _ q => e2 _ _ n2 (e1.extBut _ _ n1 q)) he)
theorem next_heldT {x y : Value} {Q : Option Value → Shared → Prop} (D : ZipApart z TI TO i1 i2 l1 l2) (hz : IsZipHeld s.heap z TI TO T f) (hT : s.heap.get? T = some oT) (hp : IsPair s.heap TI (.ref i1) (.ref i2))
    (a1 : s.heap.IsTupleIter i1 l1 k1) (a2 : s.heap.IsTupleIter i2 l2 k2) (b1 : s.heap.IsTuple l1 xs) (b2 : s.heap.IsTuple l2 ys) (hx : xs[k1]? = some x) (hy : ys[k2]? = some y)
    (hQ : ∀ h', IsZipHeld h' z TI TO T true → h'.IsTupleIter i1 l1 (k1 + 1) → h'.IsTupleIter i2 l2 (k2 + 1) → IsPair h' s.heap.objs.size x y → h'.objs.size = s.heap.objs.size + 1 →
      (∀ c o, c ≠ z → c ≠ i1 → c ≠ i2 → s.heap.get? c = some o → h'.get? c = some o) → Q (some (.ref s.heap.objs.size)) { s with heap := h' }) : wpAny (model prog w) A (pyNext (.ref z)) Q E s := by
  have ty : s.TypeIs (.ref z) "zip" := ⟨_, hz, rfl⟩
  unfold pyNext
  refine wpAny_bind (wpAny_attempt (wpAny_callSpecial?_slot (name := Str.ofString "__next__") ty F.slot_zip_next (wpAny_call_entry F.slot_zip_next ty F.entry_zip_next ?_ (F.args_zip_next_1 _))))
  exact heldT_item D hz hT hp a1 a2 b1 b2 hx hy fun h' y1 y2 y3 y4 y5 y6 => wpAny_pure (hQ h' y1 y2 y3 y4 y5 y6)
theorem next_heldT_end {Q : Option Value → Shared → Prop} (hh : A.handled = none) (D : ZipApart z TI TO i1 i2 l1 l2) (hz : IsZipHeld s.heap z TI TO T f) (hT : s.heap.get? T = some oT) (hp : IsPair s.heap TI (.ref i1) (.ref i2))
    (a1 : s.heap.IsTupleIter i1 l1 k1) (b1 : s.heap.IsTuple l1 xs) (hx : xs[k1]? = none)
    (hQ : ∀ h', (∀ c o, c ≠ z → c ≠ i1 → c ≠ i2 → s.heap.get? c = some o → h'.get? c = some o) → Q none { s with heap := h' }) : wpAny (model prog w) A (pyNext (.ref z)) Q E s := by
  have ty : s.TypeIs (.ref z) "zip" := ⟨_, hz, rfl⟩
  unfold pyNext
  refine wpAny_bind (wpAny_attempt (wpAny_callSpecial?_slot (name := Str.ofString "__next__") ty F.slot_zip_next (wpAny_call_entry F.slot_zip_next ty F.entry_zip_next ?_ (F.args_zip_next_1 _))))
  refine heldT_end hh D hz hT hp a1 b1 hx fun h' e hk he => ?_
  obtain ⟨o, ho, hc⟩ := he
  exact wpAny_bind (wpAny_isInstance (T := "StopIteration") (b := true) ⟨o, ho, hc⟩ isSubtype_stop (wpAny_pure (hQ h' hk)))
end
theorem zip_nolen : typeLookup (.type "zip") "__len__" = pure none := am_miss_of_fast (by decide +kernel)
theorem zip_nohint : typeLookup (.type "zip") "__length_hint__" = pure none := am_miss_of_fast (by decide +kernel)
/-- where the zip stands behind i turns -/
def ZipAt (h : Heap) (z TI TO i1 i2 a b q : Addr) (i : Nat) : Prop :=
  IsPair h TI (.ref i1) (.ref i2) ∧ h.IsTupleIter i1 a i ∧ h.IsTupleIter i2 b i ∧ ((IsZip h z TI TO .none ∧ ∃ x y, IsPair h TO x y) ∨ ∃ T f oT, IsZipHeld h z TI TO T f ∧ h.get? T = some oT ∧ T ≠ z ∧ T ≠ i1 ∧ T ≠ i2 ∧ T ≠ q ∧ ∃ o, h.get? TO = some o)
theorem ZipAt.keep {h h' : Heap} {z TI TO i1 i2 a b q : Addr} {i : Nat} (st : ZipAt h z TI TO i1 i2 a b q i) (d1 : q ≠ z) (d2 : q ≠ TI) (d3 : q ≠ TO) (d4 : q ≠ i1) (d5 : q ≠ i2) (k : ∀ c o, c ≠ q → h.get? c = some o → h'.get? c = some o) : ZipAt h' z TI TO i1 i2 a b q i := by
  obtain ⟨x1, x2, x3, x4⟩ := st
  refine ⟨k _ _ d2.symm x1, x2.at fun o e => k _ o d4.symm e, x3.at fun o e => k _ o d5.symm e, ?_⟩
  rcases x4 with ⟨hz, x, y, hT⟩ | ⟨T, f, oT, hz, hT, r⟩
  · exact .inl ⟨k _ _ d1.symm hz, x, y, k _ _ d3.symm hT⟩
  · obtain ⟨r1, r2, r3, r4, o, hO⟩ := r
    exact .inr ⟨T, f, oT, k _ _ d1.symm hz, k _ _ r4 hT, r1, r2, r3, r4, o, k _ _ d3.symm hO⟩
/-- the pairs so far -/
def PairsAt (H0 H : Hp) (Ts : List Addr) (ps : List (V × V)) : Prop := Paired (fun T p => H0 T = none ∧ H T = some (.tup [p.1, p.2])) Ts ps
theorem PairsAt.same {H0 H H' : Hp} {Ts : List Addr} {ps : List (V × V)} (h : PairsAt H0 H Ts ps) (e : ∀ T x, H0 T = none → H T = some (.tup x) → H' T = some (.tup x)) : PairsAt H0 H' Ts ps := by
  unfold PairsAt at h ⊢
  induction h with
  | nil => exact .nil
  | cons r _ ih => exact .cons ⟨r.1, e _ _ r.1 r.2⟩ ih
theorem paired_snoc {α β : Type} {F : α → β → Prop} {a : α} {b : β} : ∀ {l : List α} {m : List β}, Paired F l m → F a b → Paired F (l ++ [a]) (m ++ [b])
  | _, _, .nil, r => .cons r .nil
  | _, _, .cons h t, r => .cons h (paired_snoc t r)
section
variable {X : Cx} {pins : List (Addr × Obj)} {σ : L2.St} {A1 : Around} {a b z TI TO i1 i2 q : Addr} {xs ys : List V} {H0 : Hp} {Rs : Result → Shared → Prop}
theorem zip_loop (hh : A1.handled = none) (D : ZipApart z TI TO i1 i2 a b) (d1 : q ≠ z) (d2 : q ≠ TI) (d3 : q ≠ TO) (d4 : q ≠ i1) (d5 : q ≠ i2) (hl : xs.length = ys.length) (hz0 : xs.length < sizeLine)
    (hdone : ∀ (Ts : List Addr) (H : Hp) (s : Shared), Inv X pins σ H s → Same H0 H → H q = some (.lst (Ts.map V.ref)) → PairsAt H0 H Ts (xs.zip ys) → Rs (.ok (.ret .none)) s) (hq0 : H0 q = none) (ha0 : SqT X.K H0 a xs) (hb0 : SqT X.K H0 b ys) :
    ∀ (k i : Nat) (Ts : List Addr) (H : Hp) (s : Shared), xs.length - i = k → i ≤ xs.length → Inv X pins σ H s → Same H0 H → H q = some (.lst (Ts.map V.ref)) → PairsAt H0 H Ts ((xs.zip ys).take i) →
      (∀ c ∈ [z, TO, i1, i2], FpOk X pins H c) → ZipAt s.heap z TI TO i1 i2 a b q i → codeAny (model X.prog X.w) A1 (.builtin "list.extend.loop" ⟨[.ref q, .ref z, .none], []⟩) Rs s := by
  intro k
  induction k with
  | zero =>
    intro i Ts H s hk hi I sm hq hP hf st
    have hin : i = xs.length := by omega
    subst hin
    obtain ⟨x1, x2, x3, x4⟩ := st
    obtain ⟨its, rv, p, _⟩ := I.tuple (sqT_same sm ha0)
    obtain ⟨its2, rv2, p2, _⟩ := I.tuple (sqT_same sm hb0)
    have hn : its.toArray[xs.length]? = none := by simp [rv.length]
    have fin : ∀ h', (∀ c o, c ∉ [z, TO, i1, i2] → s.heap.get? c = some o → h'.get? c = some o) → Rs (.ok (.ret .none)) { s with heap := h' } := fun h' kp => by
      refine hdone Ts H _ (I.turnedL (t' := s.toks) (ch := [z, TO, i1, i2]) (fun c o n e => kp c o n e) hf) sm hq ?_
      have e : (xs.zip ys).take xs.length = xs.zip ys := List.take_of_length_le (by rw [List.length_zip]; omega)
      rw [e] at hP
      exact hP
    refine codeAny_builtin PySem.F.entry_extend_loop ?_
    rw [Around.under_plainId PySem.F.plain_extend_loop _]
    show wpAny _ A1.in1 (pyNext (.ref z) >>= _) _ _ s
    refine wpAny_bind ?_
    rcases x4 with ⟨hz, x, y, hT⟩ | ⟨T, f, oT, hz, hT, r⟩
    · exact pyNext_zipT_end hh D hz x1 hT x2 x3 p p2 (.inl hn) fun h' kp => wpAny_pure (fin h' fun c o n e => kp c o (fun z => n (by simp [z])) (fun z => n (by simp [z])) (fun z => n (by simp [z])) (fun z => n (by simp [z])) e)
    · exact next_heldT_end hh D hz hT x1 x2 p hn fun h' kp => wpAny_pure (fin h' fun c o n e => kp c o (fun z => n (by simp [z])) (fun z => n (by simp [z])) (fun z => n (by simp [z])) e)
  | succ k ih =>
    intro i Ts H s hk hi I sm hq hP hf st
    have hlt : i < xs.length := by omega
    have hlt2 : i < ys.length := by omega
    obtain ⟨x1, x2, x3, x4⟩ := st
    obtain ⟨its, rv, p, _⟩ := I.tuple (sqT_same sm ha0)
    obtain ⟨its2, rv2, p2, _⟩ := I.tuple (sqT_same sm hb0)
    obtain ⟨u, hu, ru⟩ := rv.get (List.getElem?_eq_getElem hlt)
    obtain ⟨u2, hu2, ru2⟩ := rv2.get (List.getElem?_eq_getElem hlt2)
    have lenT : Ts.length = i := by
      have e := paired_len hP
      rw [List.length_take, List.length_zip] at e
      omega
    have qT : ∀ c : Addr, H c = none → c ≠ q := fun c hc e => by rw [e, hq] at hc; cases hc
    -- what follows a turn that handed out a new pair
    have turn : ∀ h' : Heap, (∀ c o, c ∉ [z, TO, i1, i2] → s.heap.get? c = some o → h'.get? c = some o) → IsPair h' s.heap.objs.size u u2 → ZipAt h' z TI TO i1 i2 a b q (i + 1) →
        wpAny (model X.prog X.w) A1.in1 (updateSeq q (·.push (.ref s.heap.objs.size)) >>= fun _ => again (.builtin "list.extend.loop" ⟨[.ref q, .ref z, .none], []⟩))
          (fun fin s' => match fin with | .done f => Rs (.ok f) s' | .again c' => c'.quiet = true ∧ codeAny (model X.prog X.w) A1 c' Rs s') (fun e s' => Rs (.error e) s') { s with heap := h' } := fun h' kp pn st' => by
      have new : ObjOk X.prog X.w (upd H s.heap.objs.size (.tup [xs[i], ys[i]])) h' s.heap.objs.size (.tup [xs[i], ys[i]]) := ⟨by show 2 ≤ sizeLine; decide, [u, u2], .cons ru (.cons ru2 .nil), ⟨_, pn, rfl, _, rfl⟩⟩
      have nT : H s.heap.objs.size = none := I.hok.fresh (Nat.le_refl _)
      have I1 : Inv X pins σ (upd H s.heap.objs.size (.tup [xs[i], ys[i]])) { s with heap := h' } := I.turnedNew (t' := s.toks) (ch := [z, TO, i1, i2]) kp hf (Nat.le_refl _) new
      have hq1 : upd H s.heap.objs.size (.tup [xs[i], ys[i]]) q = some (.lst (Ts.map V.ref)) := by rw [upd_ne (qT _ nT).symm]; exact hq
      obtain ⟨_, jts, kk, r2, hl2, e⟩ := I1.lstM hq1
      have I2 := I1.lset (f := (·.push (.ref s.heap.objs.size))) (its' := jts ++ [.ref s.heap.objs.size]) (ys := Ts.map V.ref ++ [.ref s.heap.objs.size]) (t' := s.toks) hq1 e (by simp) (r2.append (.cons (show RelV (V.ref s.heap.objs.size) (Value.ref s.heap.objs.size) from rfl) .nil)) (by rw [List.length_append, List.length_map]; simp; omega)
      have hjl : jts.length = i := by rw [← hl2, List.length_map, lenT]
      refine wpAny_bind (wpAny_updateSeq e rfl (wpAny_pure ⟨plainId_quiet PySem.F.plain_extend_loop _, ?_⟩) (by rw [List.size_toArray]; omega) (by show (jts.toArray.push _).size ≤ sizeLine + 1; rw [Array.size_push, List.size_toArray]; omega))
      have T0 : H0 s.heap.objs.size = none := by
        cases h0 : H0 s.heap.objs.size with
        | none => rfl
        | some o => exact (ne_of_none (sm _ _ h0) nT rfl).elim
      refine ih (i + 1) (Ts ++ [s.heap.objs.size]) _ _ (by omega) hlt I2 (fun c o e0 => ?_) ?_ ?_ (fun c hc => ?_) (st'.keep d1 d2 d3 d4 d5 fun c o n e' => (Heap.get?_update_other _ _ (Ne.symm n)).trans e')
      · rw [upd_ne (fun e' : c = q => by rw [e', hq0] at e0; cases e0), upd_ne (ne_of_none (sm _ _ e0) nT)]
        exact sm _ _ e0
      · rw [upd_same, List.map_append]
        rfl
      · have hz : (xs.zip ys)[i]? = some (xs[i], ys[i]) := by rw [List.getElem?_zip_eq_some]; exact ⟨List.getElem?_eq_getElem hlt, List.getElem?_eq_getElem hlt2⟩
        rw [List.take_succ, hz]
        refine paired_snoc (hP.same fun T x n e' => ?_) ⟨T0, ?_⟩
        · have nq : T ≠ q := fun z => by rw [z, hq] at e'; cases e'
          rw [upd_ne nq, upd_ne (ne_of_none e' nT)]
          exact e'
        · rw [upd_ne (qT _ nT), upd_same]
      · have f := hf c hc
        obtain ⟨f0, f1, f2, f3, f4, f5⟩ := f
        refine ⟨?_, f1, f2, f3, f4, f5⟩
        have nq : c ≠ q := qT c f0
        rw [upd_ne nq]
        have lt : c < s.heap.objs.size := by
          simp only [List.mem_cons, List.not_mem_nil, or_false] at hc
          obtain ⟨o1, q1, _⟩ := x2
          obtain ⟨o2, q2, _⟩ := x3
          rcases hc with rfl | rfl | rfl | rfl
          · rcases x4 with ⟨hz, _⟩ | ⟨T, f, oT, hz, _⟩
            · exact Heap.lt_size hz
            · exact Heap.lt_size hz
          · rcases x4 with ⟨hz, x, y, hT⟩ | ⟨T, f, oT, hz, _, _, _, _, _, o, hO⟩
            · exact Heap.lt_size hT
            · exact Heap.lt_size hO
          · exact Heap.lt_size q1
          · exact Heap.lt_size q2
        rw [upd_ne (Nat.ne_of_lt lt)]
        exact f0
    have lt : ∀ {c o}, s.heap.get? c = some o → s.heap.objs.size ≠ c := fun e => Nat.ne_of_gt (Heap.lt_size e)
    have m1 : s.heap.objs.size ≠ i1 := let ⟨_, e, _⟩ := x2; lt e
    have m2 : s.heap.objs.size ≠ i2 := let ⟨_, e, _⟩ := x3; lt e
    have m3 : s.heap.objs.size ≠ q := by
      obtain ⟨_, jts, kk, _, _, e⟩ := I.lstM hq
      exact lt e
    refine codeAny_builtin PySem.F.entry_extend_loop ?_
    rw [Around.under_plainId PySem.F.plain_extend_loop _]
    show wpAny _ A1.in1 (pyNext (.ref z) >>= _) _ _ s
    refine wpAny_bind ?_
    rcases x4 with ⟨hz, x, y, hT⟩ | ⟨T, f, oT, hz, hT, r⟩
    · refine pyNext_zipT_item D hz x1 hT x2 x3 p p2 (x := u) (y := u2) (by simpa using hu) (by simpa using hu2) fun h' z' TO' h1' h2' hT' hsz kp => ?_
      refine turn h' (fun c o n e => kp c o (fun z => n (by simp [z])) (fun z => n (by simp [z])) (fun z => n (by simp [z])) (fun z => n (by simp [z])) e) hT' ⟨kp _ _ D.TIz D.TITO D.TIi1 D.TIi2 x1, h1', h2', .inr ⟨s.heap.objs.size, false, _, z', hT', lt hz, m1, m2, m3, _, TO'⟩⟩
    · refine next_heldT D hz hT x1 x2 x3 p p2 (x := u) (y := u2) (by simpa using hu) (by simpa using hu2) fun h' z' h1' h2' hT' hsz kp => ?_
      refine turn h' (fun c o n e => kp c o (fun z => n (by simp [z])) (fun z => n (by simp [z])) (fun z => n (by simp [z])) e) hT' ⟨kp _ _ D.TIz D.TIi1 D.TIi2 x1, h1', h2', .inr ⟨T, true, oT, z', kp _ _ r.1 r.2.1 r.2.2.1 hT, r.1, r.2.1, r.2.2.1, r.2.2.2.1, let ⟨o, hO⟩ := r.2.2.2.2; ⟨o, kp _ _ D.TOz D.TOi1 D.TOi2 hO⟩⟩⟩
/-- list(it), it a zip of two tuples of one length, just made -/
theorem list_zip {A : Around} {E : Value → Shared → Prop} {s : Shared} {H : Hp} {Q : Value → Shared → Prop} (hh : A.handled = none) (D : ZipApart z TI TO i1 i2 a b) (hl : xs.length = ys.length) (hz0 : xs.length < sizeLine) (I : Inv X pins σ H s)
    (ha0 : SqT X.K H a xs) (hb0 : SqT X.K H b ys) (hf : ∀ c ∈ [z, TO, i1, i2], FpOk X pins H c) (hz : IsZip s.heap z TI TO .none) (hp : IsPair s.heap TI (.ref i1) (.ref i2)) (hO : IsPair s.heap TO .none .none)
    (h1 : s.heap.IsTupleIter i1 a 0) (h2 : s.heap.IsTupleIter i2 b 0)
    (hQ : ∀ (q : Addr) (Ts : List Addr) (H' : Hp) (s' : Shared), Inv X pins σ H' s' → Same H H' → H q = none → H' q = some (.lst (Ts.map V.ref)) → PairsAt H H' Ts (xs.zip ys) → Q (.ref q) s') :
    wpAny (model X.prog X.w) A (call (.type "list") [.ref z]) Q E s := by
  refine callType_codes (Q₁ := fun obj s₁ => obj = .ref s.heap.objs.size ∧ s₁ = { s with heap := s.heap.push { cls := .type "list", data := .seq #[] } }) PySem.F.called_list (PySem.F.typeCall_list_1 _) PySem.F.entry_list_init (code_list_new _ ⟨rfl, rfl⟩) fun obj s₁ e1 => ?_
  obtain ⟨rfl, rfl⟩ := e1
  have hS : (s.heap.push { cls := .type "list", data := .seq #[] }).get? s.heap.objs.size = some { cls := .type "list", data := .seq #[] } := Heap.get?_push_size s.heap rfl
  refine ⟨⟨_, hS, rfl⟩, PySem.F.args_list_init_2 _ _, ?_⟩
  have fr : H s.heap.objs.size = none := I.hok.fresh (Nat.le_refl _)
  have I1 : Inv X pins σ (upd H s.heap.objs.size (.lst [])) { s with heap := s.heap.push { cls := .type "list", data := .seq #[] } } := I.lnew (its := []) (t' := s.toks) .nil (Nat.zero_le _)
  have lz : z < s.heap.objs.size := Heap.lt_size hz
  have lTI : TI < s.heap.objs.size := Heap.lt_size hp
  have lTO : TO < s.heap.objs.size := Heap.lt_size hO
  have l1 : i1 < s.heap.objs.size := let ⟨_, e, _⟩ := h1; Heap.lt_size e
  have l2 : i2 < s.heap.objs.size := let ⟨_, e, _⟩ := h2; Heap.lt_size e
  show wpAny _ A.in1.in1 (do let old ← Builtin.List.listItems (.ref s.heap.objs.size); Builtin.List.listUpdate (.ref s.heap.objs.size) (fun _ => #[]); letGo old.toList.reverse; Builtin.List.listExtendWith (.ref s.heap.objs.size) (.ref z) .none) _ _ _
  refine wpAny_bind ?_
  unfold Builtin.List.listItems
  refine wpAny_bind (wpAny_seqItems hS rfl (wpAny_pure ?_))
  show wpAny _ A.in1.in1 (updateSeq s.heap.objs.size (fun _ => #[]) >>= fun _ => letGo (#[] : Array Value).toList.reverse >>= fun _ => Builtin.List.listExtendWith (.ref s.heap.objs.size) (.ref z) .none) _ _ _
  refine wpAny_bind (wpAny_updateSeq hS rfl (wpAny_bind (wpAny_letGo ?_)))
  have I2 := I1.lset (f := fun _ => #[]) (its := []) (its' := []) (ys := []) (t' := s.toks) upd_same hS rfl .nil (Nat.zero_le _)
  rw [upd_upd] at I2
  obtain ⟨_, js, kk, r3, hl3, e3⟩ := I2.lstM upd_same
  cases r3
  have kp : ∀ c o, c < s.heap.objs.size → s.heap.get? c = some o → ((s.heap.push { cls := .type "list", data := .seq #[] }).update s.heap.objs.size (Obj.mapSeq fun _ => #[])).get? c = some o := fun c o n e => (Heap.get?_update_other _ _ (Nat.ne_of_gt n)).trans (Heap.get?_push_of_some _ e)
  have st : ZipAt ((s.heap.push { cls := .type "list", data := .seq #[] }).update s.heap.objs.size (Obj.mapSeq fun _ => #[])) z TI TO i1 i2 a b s.heap.objs.size 0 :=
    ⟨kp _ _ lTI hp, h1.at fun o e => kp _ o l1 e, h2.at fun o e => kp _ o l2 e, .inl ⟨kp _ _ lz hz, .none, .none, kp _ _ lTO hO⟩⟩
  have ty : ({ s with heap := (s.heap.push { cls := .type "list", data := .seq #[] }).update s.heap.objs.size (Obj.mapSeq fun _ => #[]) } : Shared).TypeIs (.ref z) "zip" := ⟨_, kp _ _ lz hz, rfl⟩
  unfold Builtin.List.listExtendWith
  refine wpAny_bind (wpAny_typeOf ty ?_)
  have n1 : Builtin.List.listSameRef (.ref s.heap.objs.size) (.ref z) = false := by simp [Builtin.List.listSameRef, Nat.ne_of_gt lz]
  have n2 : (Value.type "zip" == Value.type "list") = false := by decide
  have n3 : (Value.type "zip" == Value.type "tuple") = false := by decide
  simp only [n1, n2, n3, Bool.or_false, Bool.false_eq_true, if_false]
  refine wpAny_bind (wpAny_pyIter_zip (kp _ _ lz hz) (wpAny_bind (wpAny_holding ?_)))
  unfold Builtin.List.listLengthHint
  refine wpAny_bind (wpAny_specialOf ty zip_nolen ?_)
  show wpAny _ A.in1.in1 (specialOf (Value.ref z) (Str.ofString "__length_hint__") >>= _) _ _ _
  refine wpAny_bind (wpAny_specialOf ty zip_nohint (wpAny_pure ?_))
  show wpAny _ A.in1.in1 (rule "list.extend.makes-room" >>= fun _ => Builtin.List.listTouch (.ref s.heap.objs.size) >>= fun _ => again (.builtin "list.extend.loop" ⟨[.ref s.heap.objs.size, .ref z, .none], []⟩)) _ _ _
  refine wpAny_bind (wpAny_rule (wpAny_bind ?_))
  show wpAny _ A.in1.in1 (updateSeq s.heap.objs.size (·.push .none) >>= fun _ => updateSeq s.heap.objs.size (·.pop)) _ _ _
  refine wpAny_bind (wpAny_updateSeq e3 rfl ?_)
  have I3 := I2.lset (f := (·.push Value.none)) (its' := [Value.none]) (ys := [.non]) (t' := s.toks) upd_same e3 (by simp) (.cons rfl .nil) (by rw [List.length_singleton, sizeLine_eq]; decide)
  rw [upd_upd] at I3
  obtain ⟨_, j4, k4, r4, hl4, e4⟩ := I3.lstM upd_same
  obtain ⟨u4, rfl, ru4⟩ := r4.one
  refine wpAny_updateSeq e4 rfl ?_ (by show 1 ≤ sizeLine; rw [sizeLine_eq]; decide) (by show 0 ≤ sizeLine + 1; exact Nat.zero_le _)
  have I4 := I3.lset (f := (·.pop)) (its := [u4]) (its' := []) (ys := []) (t' := s.toks) upd_same e4 (by rfl) .nil (Nat.zero_le _)
  rw [upd_upd] at I4
  have sm : Same H (upd H s.heap.objs.size (.lst [])) := fun c o e => by rw [upd_ne (ne_of_none e fr)]; exact e
  refine wpAny_pure ⟨plainId_quiet PySem.F.plain_extend_loop _, zip_loop (H0 := H) (A1 := A.in1) hh D (Nat.ne_of_gt lz) (Nat.ne_of_gt lTI) (Nat.ne_of_gt lTO) (Nat.ne_of_gt l1) (Nat.ne_of_gt l2) hl hz0 (fun Ts H' s' I' sm' hq' hP' => ?_) fr ha0 hb0 xs.length 0 [] _ _ rfl (Nat.zero_le _) I4 sm upd_same ?_ (fun c hc => ?_) ?_⟩
  · exact ⟨rfl, hQ _ Ts H' s' I' sm' fr hq' hP'⟩
  · rw [List.take_zero]
    exact .nil
  · obtain ⟨f0, f1, f2, f3, f4, f5⟩ := hf c hc
    have lt : c < s.heap.objs.size := by
      simp only [List.mem_cons, List.not_mem_nil, or_false] at hc
      rcases hc with rfl | rfl | rfl | rfl <;> assumption
    exact ⟨by rw [upd_ne (Nat.ne_of_lt lt)]; exact f0, f1, f2, f3, f4, f5⟩
  · exact (st.keep (Nat.ne_of_gt lz) (Nat.ne_of_gt lTI) (Nat.ne_of_gt lTO) (Nat.ne_of_gt l1) (Nat.ne_of_gt l2) fun c o n e => (Heap.get?_update_other _ _ (Ne.symm n)).trans ((Heap.get?_update_other _ _ (Ne.symm n)).trans e))
end
/-- list(zip(e, e2)), two tuples of one length -/
def tListZip (K : PySem.W.Frag) (ta : TA) : TE := fun σ H Q => ta σ H fun vs H1 => ∃ a b xs ys, vs = [.ref a, .ref b] ∧ SqT K H1 a xs ∧ SqT K H1 b ys ∧ xs.length = ys.length ∧ xs.length < sizeLine ∧
  ∀ (q : Addr) (Ts : List Addr) (H2 : Hp), Same H1 H2 → H1 q = none → H2 q = some (.lst (Ts.map V.ref)) → PairsAt H1 H2 Ts (xs.zip ys) → Q (.ref q) H2
theorem pe_listZip {X : Cx} {e e2 : Expr} {ta : TA} {p p2 pos pos2 : Pos} (hc : X.calm = true) (hg : Gl X "list") (hm : X.mg "list" = none) (hg2 : Gl X "zip") (hm2 : X.mg "zip" = none) (ha : PA X [e, e2] ta)
    (hs0 : starEach [.Call (.Name "zip" p2) [e, e2] [] pos2] X.env = (false, eval (.Call (.Name "zip" p2) [e, e2] [] pos2) X.env) :: starEach [] X.env := by rfl) (hp0 : (backTo pos (starEach [] X.env)).any (·.1) = false := by rfl)
    (hs : starEach [e, e2] X.env = (false, eval e X.env) :: starEach [e2] X.env := by rfl) (hpl : (backTo pos2 (starEach [e2] X.env)).any (·.1) = false := by rfl) :
    PE X (.Call (.Name "list" p) [.Call (.Name "zip" p2) [e, e2] [] pos2] [] pos) (tListZip X.K ta) := by
  refine ⟨fun pins s σ H Q I h => ?_⟩
  have inner : wpAny (model X.prog X.w) X.A (eval (.Call (.Name "zip" p2) [e, e2] [] pos2) X.env) (fun v s1 => wpAny (model X.prog X.w) X.A (call (.type "list") [v]) (EP X pins σ Q) X.xe s1) X.xe s := by
    refine Call_ (ld_blt I hg2 hm2 PyProof.Rows.boot_zip (PyProof.Rows.callWith_type1 (thn (ha.run pos2 pins s σ H _ I h) fun us s1 hh => ?_) hs hpl))
    obtain ⟨vs, H1, I1, r1, a, b, xs, ys, rfl, hqx, hqy, hl, hz, q⟩ := hh
    match us, r1 with
    | [u1, u2], .cons r (.cons r' .nil) =>
      cases (show u1 = Value.ref a from r)
      cases (show u2 = Value.ref b from r')
      obtain ⟨its, rv, p1, _⟩ := I1.tuple hqx
      obtain ⟨its2, rv2, p2, _⟩ := I1.tuple hqy
      obtain ⟨o1, ho1, _⟩ := id p1
      obtain ⟨o2, ho2, _⟩ := id p2
      refine call_zipT (show s1.heap.IsTuple a its.toArray from p1) (show s1.heap.IsTuple b its2.toArray from p2) fun h' hz' hTI hTO h1 h2 hsz hk => ?_
      have I2 : Inv X pins σ H1 { s1 with heap := h' } := I1.kept (t' := s1.toks) hk
      refine list_zip (I1.ok.hd hc) (PySem.W.ktu_apart s1.heap.objs.size a b (Heap.lt_size ho1) (Heap.lt_size ho2)) hl hz I2 hqx hqy (fun c hcm => ?_) hz' hTI hTO h1 h2 fun q' Ts H' s' I' sm nq hq' hP => ⟨.ref q', H', I', rfl, q q' Ts H' sm nq hq' hP⟩
      have hle : s1.heap.objs.size ≤ c := by
        simp only [List.mem_cons, List.not_mem_nil, or_false] at hcm
        rcases hcm with z | z | z | z
        · rw [z]; exact Nat.le_add_right _ _
        · rw [z]; exact Nat.le_add_right _ _
        · rw [z]; exact Nat.le_refl _
        · rw [z]; exact Nat.le_add_right _ _
      exact I1.fpOk hle (I1.hok.fresh hle)
  have args : wpAny (model X.prog X.w) X.A (spliced (backTo pos (starEach [.Call (.Name "zip" p2) [e, e2] [] pos2] X.env))) (fun vs s1 => wpAny (model X.prog X.w) X.A (call (.type "list") vs) (EP X pins σ Q) X.xe s1) X.xe s := by
    rw [hs0]
    show wpAny _ _ (spliced [(false, eval (.Call (.Name "zip" p2) [e, e2] [] pos2) X.env)]) _ _ s
    exact Calls.spliced_cons (thn inner fun v s1 q => Calls.spliced_nil q)
  exact wpAny_Call_Name_kw (ld_blt I hg hm PyProof.Rows.boot_list (PyProof.Rows.callWith_type1 args hs0 hp0))
end Lw

set_option Elab.async false
set_option linter.all false
set_option maxRecDepth 100000
set_option maxHeartbeats 4000000
/-! A def's promise with all that a call asks of it, in one fact; the calls by it. -/
namespace Lw
open PySem PySem.Spec PyProof.Rows L2
/-- the def at f keeps sp at level k; nothing goes out of it -/
structure Pr (P : Program) (w : World) (K : PySem.W.Frag) (mg : Str → Option Value) (base : Heap) (k : Nat) (f : Addr) (ps : List Str) (sp : Sp) : Prop where
  ex : ∃ fd, FnOk P w K mg base CX0 k f fd ps sp ∧ Binds K fd ps []
  kp : PySem.W.keepIn K (.ref f) = true
theorem Pr.of {P : Program} {w : World} {K : PySem.W.Frag} {mg : Str → Option Value} {base : Heap} {k : Nat} {f : Addr} {fd : FuncData} {ps : List Str} {sp : Sp} (h : FnOk P w K mg base CX0 k f fd ps sp) (b : Binds K fd ps []) (kp : PySem.W.keepIn K (.ref f) = true) : Pr P w K mg base k f ps sp := ⟨⟨fd, h, b⟩, kp⟩
section
variable {X : Cx} {k : Nat} {f C : Addr} {x m : Str} {ps : List Str} {sp : Sp} {E : XK} {p pos apos np : Pos} {o e : Expr} {es : List Expr} {ta : TE} {t : TA}
theorem pcl (G : Pr X.prog X.w X.K X.mg X.base k f ps sp) (hr : Room k X.A) (hg : Gl X x) (hm : X.mg x = some (.ref f)) (ha : PA X (e :: es) t) (hdb : (x == ("__debug__" : Str)) = false := by decide)
    (he : starEach (e :: es) X.env = (false, eval e X.env) :: starEach es X.env := by rfl) (hpl : (backTo pos (starEach es X.env)).any (·.1) = false := by rfl) : PE X (.Call (.Name x p) (e :: es) [] pos) (tCall sp [] E0 t) := by
  obtain ⟨fd, F, b⟩ := G.ex
  exact pe_call F hr hg hm G.kp b .nil pass0 ha hdb he hpl
theorem pmk (M : Mk X.K C f) (G : Pr X.prog X.w X.K X.mg X.base k f ps sp) (hr : Room (k + 1) X.A) (hg : Gl X x) (hm : X.mg x = some (.ref C)) (ha : PA X (e :: es) t) (hdb : (x == ("__debug__" : Str)) = false := by decide)
    (he : starEach (e :: es) X.env = (false, eval e X.env) :: starEach es X.env := by rfl) (hpl : (backTo pos (starEach es X.env)).any (·.1) = false := by rfl) : PE X (.Call (.Name x p) (e :: es) [] pos) (tMake C sp [] E0 t) := by
  obtain ⟨fd, F, b⟩ := G.ex
  exact pe_make M F hr hg hm b .nil pass0 ha hdb he hpl
theorem pmt {pl : Sem Bool} (he : PE X o ta) (c : Cls X.K C) (hm : PySem.W.findIn X.K (.ref C) m = some (some (.ref f))) (hf : PySem.W.isFn X.K (.ref f) = true) (G : Pr X.prog X.w X.K X.mg X.base k f ps sp) (hr : Room k X.A) (ha : PA X (e :: es) t)
    (hst : starEach (e :: es) X.env = (false, eval e X.env) :: starEach es X.env := by rfl) (hpl : (backTo pos (starEach es X.env)).any (·.1) = false := by rfl)
    (ht : eval (.Call (.Attribute o m apos) (e :: es) [] pos) X.env = (do
      let ov ← eval o X.env
      standAt apos.atName
      let (f, first) ← holding [ov] (getMethod ov m pl)
      callWith pos f first (backTo pos (starEach (e :: es) X.env)) (backToKw pos (keywordEach [] X.env))) := by rfl) :
    PE X (.Call (.Attribute o m apos) (e :: es) [] pos) (tMeth C m sp [] E0 ta t) := by
  obtain ⟨fd, F, b⟩ := G.ex
  exact pe_meth he c ⟨hm, hf, G.kp⟩ F hr b .nil pass0 ha hst hpl ht
theorem ppr {q : Addr} (he : PE X e ta) (c : Cls X.K C) (hp : PropOf X.K C m q f) (G : Pr X.prog X.w X.K X.mg X.base k f ps sp) (hr : Room (k + 1) X.A) (hab : attributeBase e m X.env (eval e X.env) = eval e X.env := by rfl) : PE X (.Attribute e m pos) (tProp C sp [] E0 ta) := by
  obtain ⟨fd, F, b⟩ := G.ex
  exact pe_prop he c hp F hr b .nil pass0 hab
theorem pst {q : Addr} {pl : Sem Bool} (S : StaticOf X.K C m q f) (G : Pr X.prog X.w X.K X.mg X.base k f ps sp) (hr : Room k X.A) (hg : Gl X x) (hm : X.mg x = some (.ref C)) (ha : PA X (e :: es) t)
    (hdb : (x == ("__debug__" : Str)) = false := by decide) (he : starEach (e :: es) X.env = (false, eval e X.env) :: starEach es X.env := by rfl) (hpl : (backTo pos (starEach es X.env)).any (·.1) = false := by rfl)
    (ht : eval (.Call (.Attribute (.Name x np) m apos) (e :: es) [] pos) X.env = (do
      let ov ← eval (.Name x np) X.env
      standAt apos.atName
      let (f, first) ← holding [ov] (getMethod ov m pl)
      callWith pos f first (backTo pos (starEach (e :: es) X.env)) (backToKw pos (keywordEach [] X.env))) := by rfl) : PE X (.Call (.Attribute (.Name x np) m apos) (e :: es) [] pos) (tCall sp [] E0 t) := by
  obtain ⟨fd, F, b⟩ := G.ex
  exact pe_static S F hr hg hm b .nil pass0 ha hdb he hpl ht
variable {p1 p2 : Str}
theorem opB {op : Operator} (hs : PySem.W.findIn X.K (.ref C) (PySem.dunder op.info.2) = some (some (.ref f))) (hf : PySem.W.isFn X.K (.ref f) = true) (hc : PySem.W.selfFirst X.K C = true) (G : Pr X.prog X.w X.K X.mg X.base k f [p1, p2] sp) (hr : Room k X.A) : OpR X (binaryOp op) (rOwnB C sp E0) := by
  obtain ⟨fd, F, b⟩ := G.ex
  exact op_ownB hs hf hc F hr b pass0
theorem opIn (hs : PySem.W.findIn X.K (.ref C) "__contains__" = some (some (.ref f))) (hf : PySem.W.isFn X.K (.ref f) = true) (G : Pr X.prog X.w X.K X.mg X.base k f [p1, p2] sp) (hr : Room k X.A) : OpR X (compareOp .In) (rOwnIn C sp E0) := by
  obtain ⟨fd, F, b⟩ := G.ex
  exact op_ownIn hs hf F hr b pass0
theorem opEq (hs : PySem.W.findIn X.K (.ref C) "__eq__" = some (some (.ref f))) (hf : PySem.W.isFn X.K (.ref f) = true) (G : Pr X.prog X.w X.K X.mg X.base k f [p1, p2] sp) (hr : Room k X.A) : OpR X (compareOp .Eq) (rOwnEq X.K C sp E0) := by
  obtain ⟨fd, F, b⟩ := G.ex
  exact op_ownEq hs hf F hr b pass0
theorem opNe (hm : PySem.W.mroIn X.K C (.type "object") = some true) (hne : PySem.W.findIn X.K (.ref C) "__ne__" = some (some (.builtin "object.__ne__"))) (hs : PySem.W.findIn X.K (.ref C) "__eq__" = some (some (.ref f))) (hf : PySem.W.isFn X.K (.ref f) = true)
    (G : Pr X.prog X.w X.K X.mg X.base k f [p1, p2] sp) (hr : Room (k + 1) X.A) : OpR X (compareOp .NotEq) (rOwnNe X.K C sp E0) := by
  obtain ⟨fd, F, b⟩ := G.ex
  exact op_ownNe hm hne hs hf F hr b pass0
end
/-! ### the rules whose reading names the written part, that part given (within a comprehension it must be) -/
section
variable {X : Cx} {e : Expr} {f : Str} {pos : Pos} {ta : TE}
theorem ixT (K : PySem.W.Frag) (hK : X.K = K := by rfl) : IxR X (rIxT K) := by
  subst hK
  exact ix_tup
theorem ixL (K : PySem.W.Frag) (hK : X.K = K := by rfl) : IxR X (rIxL K) := by
  subst hK
  exact ix_list
theorem fldK (K : PySem.W.Frag) (he : PE X e ta) (hb : attributeBase e f X.env (eval e X.env) = eval e X.env := by rfl) (hK : X.K = K := by rfl) : PE X (.Attribute e f pos) (tFld K ta f) := by
  subst hK
  exact pe_fld he hb
def rLenK (K : PySem.W.Frag) : List V → Hp → VK → Prop := fun xs H Q => ∃ p ys, xs = [.ref p] ∧ (SqL K H p ys ∨ SqT K H p ys) ∧ Q (.int ys.length) H
theorem lenK (K : PySem.W.Frag) (hK : X.K = K := by rfl) : CallR X (.builtin "len") (rLenK K) := by
  subst hK
  exact call_len_seq
theorem isiK (K : PySem.W.Frag) (hK : X.K = K := by rfl) : CallR X (.builtin "isinstance") (rIsi K) := by
  subst hK
  exact call_isi
theorem idxK (K : PySem.W.Frag) (hu : X.A.units + 65 < cLine) (hK : X.K = K := by rfl) : MtR X "list.index" (rIndexD K) := by
  subst hK
  exact mt_indexD hu
theorem eqK (K : PySem.W.Frag) (hu : X.A.units + 64 < cLine) (hK : X.K = K := by rfl) : OpR X (compareOp .Eq) (rEqD K) := by
  subst hK
  exact op_eqD hu
end
theorem tupG {X : Cx} {es : List Expr} {k : Nat} {t : TGs} {pos : Pos} (K : PySem.W.Frag) (n : Nat) (h : PGs X es t) (hc : X.calm = true := by rfl) (hn : (assignEach es X.env).length = n := by rfl) (hst : (assignEach es X.env).findIdx? (·.1) = none := by rfl) (hK : X.K = K := by rfl) : PG X (.Tuple es k pos) (gTup K n t) := by
  subst hK
  exact pg_tup hc h hn hst
theorem bmK {X : Cx} {T id : String} {name : Str} {r : V → List V → Hp → VK → Prop} {to : TE} {t : TA} {o e : Expr} {es : List Expr} {apos cpos : Pos} (K : PySem.W.Frag) (pa : PlainAttrs T) (slot : Slot T name id) (hty : typeOf (.builtin id) = pure (.type "method_descriptor")) (hm : MtR X id r) (ho : PE X o to) (ha : PA X (e :: es) t)
    (hb : attributeBase o name X.env (eval o X.env) = eval o X.env := by rfl) (hf : ((backTo cpos (starEach (e :: es) X.env)).all (fun x => !x.1) && (backToKw cpos (keywordEach [] X.env)).all (fun x => x.1.isSome) && decide ((e :: es).length + ([] : List Keyword).length + (if ([] : List Keyword).isEmpty then 0 else 1) < 30)) = true := by rfl)
    (hl : (apos.endLine == cpos.line) = true := by rfl) (hs : starEach (e :: es) X.env = (false, eval e X.env) :: starEach es X.env := by rfl) (hp : (backTo cpos (starEach es X.env)).any (·.1) = false := by rfl) (hK : X.K = K := by rfl) :
    PE X (.Call (.Attribute o name apos) (e :: es) [] cpos) (tBM K T r to t) := by
  subst hK
  exact pe_bm pa slot hty hm ho ha hb hf hl hs hp
end Lw
namespace Lw
open PySem PySem.Spec PyProof.Rows L2
theorem catK {X : Cx} (K : PySem.W.Frag) (hK : X.K = K := by rfl) : OpR X (binaryOp .Add) (rCatA K) := by
  subst hK
  exact op_catA
/-- t + (y,) -/
theorem cat_reads {K : PySem.W.Frag} {H : Hp} {a b : Addr} {xs : List V} {y : V} {Q : VK} (ha : SqT K H a xs) (hb : SqT K H b [y]) (hz : xs.length < sizeLine) (h : ∀ (p : Addr) (H' : Hp), Same H H' → SqT K H' p (xs ++ [y]) → Q (.ref p) H') : rCatA K (.ref a) (.ref b) H Q := by
  refine ⟨a, b, xs, [y], rfl, rfl, ha, hb, by rw [List.length_singleton]; omega, fun e => ?_, fun _ e => (by cases e), fun _ _ p hp => ?_⟩
  · subst e
    exact h b H (Same.refl _) hb
  · exact h p _ (fun c o e => by rw [upd_ne (ne_of_none e hp)]; exact e) (SqT.of upd_same)
/-- both ways of an if bring an int, the rest is told once -/
theorem if_int {tt : TT} {ta tb : TE} {σ : L2.St} {H : Hp} {Q : VK} (h : ∀ z : Int, Q (.int z) H) (k : (∀ z : Int, Q (.int z) H) → tIf tt ta tb σ H Q) : tIf tt ta tb σ H Q := k h
end Lw

set_option Elab.async false
set_option linter.all false
set_option maxRecDepth 100000
set_option maxHeartbeats 4000000
/-! A caught exception that stays: held as a value behind its clause. -/
namespace Lw
open PySem PySem.Spec PyProof.Rows L2
/-- an exception object of a class, caught once -/
def exv (a : Addr) (cls : Value) (d : Option Addr) : HO := .ext fun h => ∃ (oe : Obj) (vs : Array Value), h.get? a = some oe ∧ Zc cls d oe ∧ oe.data = .fields vs
theorem exv_ok {P : Program} {w : World} {H : Hp} {h : Heap} {a : Addr} {cls : Value} {d : Option Addr} {oe : Obj} {vs : Array Value} (e : h.get? a = some oe) (z : Zc cls d oe) (f : oe.data = .fields vs) : ObjOk P w H h a (exv a cls d) :=
  ⟨⟨oe, vs, e, z, f⟩, ⟨oe, e⟩, fun _ _ ⟨o, v, q, r⟩ k => ⟨o, v, k o q, r⟩⟩
section
variable {X : Cx} {pins : List (Addr × Obj)} {σ : L2.St} {H : Hp} {s : Shared}
/-- an object that is there, new since the entry, is tracked from now on -/
theorem adopt {a : Addr} {o : HO} (I : Inv X pins σ H s) (n0 : X.s_0.heap.get? a = none) (na : H a = none) (new : ObjOk X.prog X.w (upd H a o) s.heap a o) (nL : a ≠ X.env.locals) (nC : ∀ x c, X.env.cells.lookup x = some c → c ≠ a) (nP : ∀ p ∈ X.pn ++ pins, p.1 ≠ a) :
    Inv X pins σ (upd H a o) s := by
  have ne0 : ∀ b ob, X.s_0.heap.get? b = some ob → b ≠ a := fun b ob e z => by rw [z, n0] at e; cases e
  refine ⟨I.ok, I.os, I.bare, ⟨I.base.keep, I.base.slot, fun b ob e n hx => ?_, I.base.there, fun b xs e => ?_, fun b ob u e => ?_, fun b ps e => ?_⟩, I.loc, I.cell, ?_, fun x c e => ?_, fun p hp => ?_, fun b u e => ?_, I.len⟩
  · rw [upd_ne (ne0 b ob e)]
    exact I.base.free b ob e n hx
  · have q := I.base.tups b xs e
    rw [upd_ne (ne_of_none q na)]
    exact q
  · have q := I.base.frzs b ob u e
    rw [upd_ne (ne_of_none q na)]
    exact q
  · obtain ⟨m, q⟩ := I.base.tbls b ps e
    exact ⟨m, by rw [upd_ne (ne_of_none q na)]; exact q⟩
  · rw [upd_ne (Ne.symm nL)]
    exact I.free
  · rw [upd_ne (nC x c e)]
    exact I.freeC x c e
  · obtain ⟨e, n, ne, nf, d⟩ := I.pin p hp
    exact ⟨e, by rw [upd_ne (nP p hp)]; exact n, ne, nf, d⟩
  · by_cases hb : b = a
    · subst hb
      rw [upd_same] at e
      cases e
      exact new
    · rw [upd_ne hb] at e
      exact (I.hok b u e).stay (fun c v _ q => q) (fun c q => by rw [upd_ne (ne_of_none q na)]; exact q) fun c xs q => by rw [upd_ne (ne_of_none q na)]; exact q
end
/-- what 'except x as n' wishes where the exception stays held -/
def wHeld (K : PySem.W.Frag) (c : Value) (i : Nat) (ts : Addr → Value → Option Addr → TS) (Wout : WX) (D : Ends) : WX := fun cls d σ H =>
  ∃ b, PySem.W.exmOne K cls c = some b ∧ (b = true → ∀ a, H a = none → ts a cls d { nx := fun σ' H' => H' a = none → D.nx (σ'.set i none) (upd H' a (exv a cls d)), rt := fun _ _ => False, bk := fun _ _ => False, ct := fun _ _ => False } (σ.set i (some (.ref a))) H) ∧ (b = false → Wout cls d σ H)
section
variable {X : Cx} {x n : Str} {c : Value} {i : Nat} {body suite : List Stmt} {b₀ : Stmt} {np pos pos' : Pos} {tb : WX → TS} {ts : Addr → Value → Option Addr → TS} {Wout : WX}
theorem ps_try_held (hs : X.stack = X.env :: X.outer) (hf : X.env.frame = some X.env.locals) (hex : X.ex = []) (hN : X.N.Nodup) (hi : X.N[i]? = some n) (hln : X.env.kindOf n = some .local) (hc : Names X x c) (tk : Takes X Wout)
    (hb : ∀ (W : WX) (pn : List (Addr × Obj)) (xe : Value → Shared → Prop), Takes (X.tr pn xe) W → PassesOwn (model X.prog X.w) X.A X.env xe → PSs (X.tr pn xe) body (tb W))
    (hsu : ∀ (a : Addr) (oe : Obj) (cls : Value) (d : Option Addr) (pn : List (Addr × Obj)), Zc cls d oe → (∃ vs, oe.data = .fields vs) → PSs (X.suite a ((a, oe) :: pn)) (b₀ :: suite) (ts a cls d)) :
    PS X (.Try body [.ExceptHandler (some (.Name x np)) (some n) (b₀ :: suite) pos'] [] [] pos) (fun D σ H => tb (wHeld X.K c i ts Wout D) D σ H) := by
  refine ⟨fun pins s σ H D I h => ?_⟩
  have ok := I.ok
  have fr : X.A.frames = some (X.env :: X.outer) := by rw [ok.frames, hs]
  have loc : Loc X.env.scope n := .inl hln
  refine wpAny_Try_except ?_
  refine wpAny_mono ((hb (wHeld X.K c i ts Wout D) (X.pn ++ pins) (fun e s₁ => wpAny (model X.prog X.w) X.A (noteFrame e X.env) (fun _ s₂ => wpAny (model X.prog X.w) X.A (setFlight e none) (fun _ s₃ =>
    wpAny (model X.prog X.w) X.A (handleBy e X.env [.ExceptHandler (some (.Name x np)) (some n) (b₀ :: suite) pos']) (SP X pins D) X.xe s₃) X.xe s₂) X.xe s₁) (fun u s' xx => ?_) PassesOwn.looking).run [] s σ H D (I.toTry _) h) (fun f s1 hsp => ?_) (fun e s1 he => he)
  · obtain ⟨a, B, sI, pins', σ', H', cls, d, rfl, J', nb, up, sky, na, os, ag, b, hb1, hyes, hno⟩ := xx
    have J : Inv X pins σ' H' sI := J'.ofTry ok
    have sky2 : Sky B (X.env :: X.outer) a (Zc cls d) X.env.locals s'.heap := by rw [← hs]; exact sky
    show wpAny (model X.prog X.w) X.A (noteFrame (.ref a) X.env) _ _ _
    refine Sky.land Zc.steady fr hf sky2 fun h3 fl3 up3 => ?_
    have J3 : Inv X pins σ' H' { s' with heap := h3 } := J.landed nb fl3.1 (up.trans up3) os ag
    obtain ⟨oe3, vs3, he3, hz3, hd3⟩ := fl3.there
    have Ba : B.get? a = none := fl3.2.1
    have nfr : a ∉ frs (X.env :: X.outer) := fun hm => by
      obtain ⟨_, o', e', hnf⟩ := fl3.2.2.1.mem hm
      rw [he3] at e'
      cases e'
      exact hnf _ hd3
    have nL : a ≠ X.env.locals := fun z => nfr (List.mem_filterMap.mpr ⟨X.env, List.mem_cons_self, by rw [hf, z]⟩)
    have nF : a ∉ X.fs := fun hm => by
      obtain ⟨e, he, q⟩ := List.mem_filterMap.mp hm
      exact nfr (List.mem_filterMap.mpr ⟨e, List.mem_cons_of_mem _ he, q⟩)
    have nfr2 : a ∉ frs X.stack := by rw [hs]; exact nfr
    have n0 : X.s_0.heap.get? a = none := by
      cases e : X.s_0.heap.get? a with
      | none => rfl
      | some o =>
        obtain ⟨o', e'⟩ := J.base.there a o e (by rw [hex]; exact fun z => nomatch z)
        have q := nb a o' e' nfr2
        rw [Ba] at q
        cases q
    have nP : ∀ p ∈ X.pn ++ pins, p.1 ≠ a := fun p hp z => by
      obtain ⟨e, _⟩ := J.pin p hp
      have q := nb p.1 p.2 e (by rw [z]; exact nfr2)
      rw [z, Ba] at q
      cases q
    have S3 := J3.suite he3 hd3 na nL nF
    refine wpAny_handleBy_cons (codeAny_handlers_test ?_) (by intro q; cases q)
    have LT : PySem.W.Looks (model X.prog X.w) h3 (typeOf (.ref a)) cls := fun A Q E s k q => wpAny_typeOf_ref (k _ _ he3) (by rw [hz3.1]; exact q)
    have LM := PySem.W.exm_one (M := model X.prog X.w) (J3.kIn) LT hb1
    have test : ∀ {Q : Value → Shared → Prop} {E : Value → Shared → Prop}, Q c { s' with heap := h3 } → wpAny (model X.prog X.w) (X.A.mark (some (.ref a))) (eval (.Name x np) X.env) Q E { s' with heap := h3 } := fun {Q E} q => by
      obtain ⟨hg, hdbg, hm | ⟨hm, hv, hnn⟩⟩ := hc
      · exact ld_glob (X := X.suite a ((a, oe3) :: (X.pn ++ pins))) S3 hg hm q hdbg
      · exact ld_blt (X := X.suite a ((a, oe3) :: (X.pn ++ pins))) S3 hg hm hv q hnn hdbg
    refine test (LM.here ?_)
    cases b with
    | true =>
      refine codeAny_handlers_suite_as ?_
      refine HandSPX.lands_againZ fl3 fun h4 fl4 up4 => ?_
      have J4 : Inv X pins σ' H' { s' with heap := h4 } := J.landed nb fl4.1 ((up.trans up3).trans up4) os ag
      obtain ⟨oe4, vs4, he4, hz4, hd4⟩ := fl4.there
      have S4 := J4.suite he4 hd4 na nL nF
      refine store_ok (X := X.suite a ((a, oe4) :: (X.pn ++ pins))) (v := .ref a) S4 hN hi loc rfl (fun s5 S5 => ?_) (.inr hln)
      refine wpAny_mono ((hsu a oe4 cls d (X.pn ++ pins) hz4 ⟨_, hd4⟩).run [] s5 _ H' _ S5 (hyes rfl a na)) (fun f s6 hsp => ?_) (fun _ _ z => False.elim z)
      cases f with
      | next =>
        obtain ⟨σ6, H6, S6, q6⟩ := hsp
        obtain ⟨p1, p2, _, _, _⟩ := S6.pin (a, oe4) (by simp)
        have J6 : Inv X pins σ6 H6 s6 := S6.unsuite ok
        have J7 : Inv X pins σ6 (upd H6 a (exv a cls d)) s6 := adopt J6 n0 p2 (exv_ok p1 hz4 hd4) nL (fun y cc e z => by
          obtain ⟨v, o, ho, hd⟩ := J6.cell y cc e
          rw [z, show s6.heap.get? a = some oe4 from p1] at ho
          cases ho
          rw [hd4] at hd
          cases hd) nP
        exact gone_ok J7 hN hi hln fun s7 J8 => ⟨_, _, J8, q6 p2⟩
      | brk =>
        obtain ⟨_, _, _, q6⟩ := hsp
        exact q6.elim
      | cont =>
        obtain ⟨_, _, _, q6⟩ := hsp
        exact q6.elim
      | ret u =>
        obtain ⟨_, _, _, _, _, q6⟩ := hsp
        exact q6.elim
    | false =>
      show wpAny _ X.A (handleBy (.ref a) X.env []) _ _ _
      refine wpAny_handleBy_nil ?_
      obtain ⟨k1, k2, k3, oe, vs, T, oT, ts', he, hz, hd, h1, hr⟩ := id fl3
      unfold PySem.passOn
      refine wpAny_bind (wpAny_field he hd h1 ?_)
      rw [if_neg (show ¬ ((Value.ref T == Value.none) = true) from by simp)]
      have fin : wpAny (model X.prog X.w) X.A (setFlight (.ref a) X.env.frame) (fun _ s4 => wpAny (model X.prog X.w) X.A (throw (.ref a) : Sem Flow) (SP X pins D) X.xe s4) X.xe { s' with heap := h3 } := by
        rw [hf]
        refine HandSPX.setFlight_upZ fl3 fun h4 hh4 up4 => wpAny_throw (tk _ _ ?_)
        exact ⟨a, B, sI, pins, σ', H', cls, d, rfl, J, nb, (up.trans up3).trans up4, .inr (.inr (by rw [hs]; exact hh4)), na, os, ag, hno rfl⟩
      first
        | exact wpAny_bind (wpAny_pure (wpAny_bind fin))
        | exact wpAny_bind fin
  · cases f with
    | next =>
      obtain ⟨σ', H', J', q⟩ := hsp
      exact wpAny_execs_nil ⟨σ', H', J'.ofTry ok, q⟩
    | brk =>
      obtain ⟨σ', H', J', q⟩ := hsp
      exact ⟨σ', H', J'.ofTry ok, q⟩
    | cont =>
      obtain ⟨σ', H', J', q⟩ := hsp
      exact ⟨σ', H', J'.ofTry ok, q⟩
    | ret u =>
      obtain ⟨v, σ', H', J', r, q⟩ := hsp
      exact ⟨v, σ', H', J'.ofTry ok, r, q⟩
end
/-! ### the held error, looked at -/
def ErrV (H : Hp) (a C : Addr) (v : V) : Prop := ∃ d, H a = some (exv a (.ref C) (some d)) ∧ H d = some (.xd [("value", v)])
theorem ErrV.same {H H' : Hp} {a C : Addr} {v : V} (h : ErrV H a C v) (s : Same H H') : ErrV H' a C v := by
  obtain ⟨d, h1, h2⟩ := h
  exact ⟨d, s _ _ h1, s _ _ h2⟩
section
variable {X : Cx} {pins : List (Addr × Obj)} {σ : L2.St} {H : Hp} {s : Shared} {a C : Addr} {v : V}
theorem errV_inst (I : Inv X pins σ H s) (h : ErrV H a C v) : ∃ ox od, PySem.W.InstAt s.heap a ox C (some od) ∧ ∃ u, PySem.W.lookIn "value" od = some (some u) ∧ RelV v u := by
  obtain ⟨d, h1, h2⟩ := h
  obtain ⟨⟨oe, vs, ho, ⟨z1, z2⟩, hf⟩, _, _⟩ := I.hok a _ h1
  obtain ⟨m, hns, r⟩ := (show ObjOk X.prog X.w H s.heap d (.xd [("value", v)]) from I.hok d _ h2)
  obtain ⟨od, hd, hl⟩ := lookIn_ns hns
  have l : List.lookup ("value" : Str) [(("value" : Str), v)] = some v := by simp [List.lookup]
  obtain ⟨u, hu, ru⟩ := RelO.some_of (v := v) (o := m "value") (by rw [← l]; exact r "value")
  refine ⟨oe, od, ⟨ho, z1, ?_, ?_⟩, u, by rw [hl, hu], ru⟩
  · unfold PySem.W.notCls
    rw [hf]
  · rw [z2]
    exact hd
end
/-- isinstance(e, C) -/
def rIsHeld (K : PySem.W.Frag) : List V → Hp → VK → Prop := fun xs H Q => ∃ (a C : Addr) (v c : V) (u : Value) (b : Bool), xs = [.ref a, c] ∧ ErrV H a C v ∧ XcC K C ∧ ClsV c u ∧ PySem.W.kitOne K (.ref C) u = some b ∧ Q (.bl b) H
theorem call_isHeld {X : Cx} (K : PySem.W.Frag) (hK : X.K = K := by rfl) : CallR X (.builtin "isinstance") (rIsHeld K) := by
  subst hK
  intro pins s σ H xs us Q I r h
  obtain ⟨a, C, v, c, u, b, rfl, he, T, k, e, q⟩ := h
  obtain ⟨u1, u2, rfl, r1, r2⟩ := vals2 r
  cases (show u1 = Value.ref a from r1)
  have e2 := k.eq r2
  subst e2
  obtain ⟨ox, od, J, _⟩ := errV_inst I he
  exact PySem.W.kia_one (PySem.W.kitx_exc T.ic T.ga T.gg T.ox.exC T.ca T.cn T.ct T.cm) I.kIn J e (fun z => nomatch z) fun tk => ⟨.bl b, H, I.tok tk, rfl, q⟩
/-- e.value -/
def tXvV (K : PySem.W.Frag) (te : TE) : TE := fun σ H Q => te σ H fun x H1 => ∃ (a C : Addr) (v : V), x = .ref a ∧ ErrV H1 a C v ∧ XcC K C ∧ Q v H1
theorem pe_xvV {X : Cx} {e : Expr} {te : TE} {pos : Pos} (K : PySem.W.Frag) (he : PE X e te) (hb : attributeBase e "value" X.env (eval e X.env) = eval e X.env := by rfl) (hK : X.K = K := by rfl) : PE X (.Attribute e "value" pos) (tXvV K te) := by
  subst hK
  refine ⟨fun pins s σ H Q I h => attr_of hb (thn (he.run pins s σ H _ I h) fun u s1 hh => ?_)⟩
  obtain ⟨x, H1, I1, rx, a, C, v, rfl, ea, T, q⟩ := hh
  cases (show u = Value.ref a from rx)
  obtain ⟨ox, od, J, z, hz, rz⟩ := errV_inst I1 ea
  exact PySem.HandSPX.exc_get I1.kIn J T.ga T.gg T.ox.exC (PySem.W.findObj_own T.hd T.nv rfl hz) (handed_of rz) ⟨v, H1, I1.tok _, rz, q⟩
theorem neK {X : Cx} (K : PySem.W.Frag) (hu : X.A.units + 64 < cLine) (hK : X.K = K := by rfl) : OpR X (compareOp .NotEq) (rNeD K) := by
  subst hK
  exact op_neD hu
/-- a def's promise, its code object known -/
theorem okGC {P : Program} {w : World} {K : PySem.W.Frag} {mg : Str → Option Value} {base : Heap} {CX : CXT} {k : Nat} {f c : Addr} {fd : FuncData} {ps N : List Str} {sp : Sp} {x qual : Str} {params : Arguments} {body : List Stmt} {scope : Scope} (F : FunD K x qual params body scope [] [] f fd) (hc : fd.code = .ref c) (S : FnScope N ps scope)
    (len : ∀ vs H Q E, sp vs H Q E → vs.length = ps.length)
    (hb : ∀ (A : Around) (outer : List Env) (s : Shared) (H : Hp) (vs : List V) (Q : VK) (E : XK), A.guards = some [] → Room k (A.deeper (envOfC qual scope s.heap.objs.size f (.ref c))) → sp vs H Q E →
      ∃ t, PSs (cxOf CX P w K mg base N qual scope f (.ref c) A outer s H E) body t ∧ t { nx := fun _ H' => Q .non H', rt := Q } (start N vs) H) : FnG P w K mg base CX (k + 1) f fd ps sp := by
  obtain ⟨oc, od, dV, kV, doc, pm, an, cdv, ct, osl, rfl, lk, hcd, _, _⟩ := F.ex
  have e : cdv = .ref c := hc
  subst e
  exact fnG_of lk hcd S len fun A outer s H vs Q E => hb A outer s H vs Q E
end Lw

set_option Elab.async false
set_option linter.all false
set_option maxRecDepth 100000
set_option maxHeartbeats 4000000
/-! Lambdas without parameters as values; a def that calls the one that it got. -/
namespace Lw
open PySem PySem.Spec PyProof.Rows L2 LamX
/-- a lambda's text -/
structure LamD where
  params : Arguments
  body : Expr
  scope : Scope
/-- a lambda of the def of the name qual, made in a frame with these cells, stands at f; its code object at c -/
def LamO (qual : Str) (cells : List (Str × Addr)) (D : LamD) (c f : Addr) : HO := .ext fun h => ∃ pm ctv : Value, h.get? f = some (PySem.W.kla_obj "<lambda>" (qual ++ "<lambda>") D.params D.body D.scope (cloFrom cells D.scope.names []) pm c ctv)
theorem lamO_ok {P : Program} {w : World} {H : Hp} {h : Heap} {qual : Str} {cells : List (Str × Addr)} {D : LamD} {c f : Addr} {pm ctv : Value} (e : h.get? f = some (PySem.W.kla_obj "<lambda>" (qual ++ "<lambda>") D.params D.body D.scope (cloFrom cells D.scope.names []) pm c ctv)) : ObjOk P w H h f (LamO qual cells D c f) :=
  ⟨⟨pm, ctv, e⟩, ⟨_, e⟩, fun _ _ ⟨p, t, q⟩ k => ⟨p, t, k _ q⟩⟩
section
variable {X : Cx} {pins : List (Addr × Obj)} {σ : L2.St} {H HZ : Hp} {s s1 : Shared}
theorem lam_make3 {T : List (Addr × Str)} {c P : Addr} {params : Arguments} {body : Expr} {scope : Scope} {pos : Pos} {E : Value → Shared → Prop} {Q : Value → Shared → Prop} (I : Inv X pins σ H s) (TB : TabB X.base X.mg c P) (hcode : X.env.code = .ref c) (hm : (P, X.env.qual ++ "<lambda>") ∈ T)
    (hu : ∀ p ∈ T, p.1 = P → p.2 = X.env.qual ++ "<lambda>") (hT : Tabs T H) (hdef : defaultsOf params X.env = ([], [])) (hfree : ∀ y ∈ scope.names, y.2 = .free → ∃ c, X.env.cells.lookup y.1 = some c)
    (h : ∀ (f c' : Addr) (pm ctv : Value) (H1 : Hp) (s' : Shared), Inv X pins σ H1 s' → ExtN H H1 → Tabs T H1 → s'.heap.get? f = some (PySem.W.kla_obj "<lambda>" (X.env.qual ++ "<lambda>") params body scope (cloFrom X.env.cells scope.names []) pm c' ctv) → H1 f = none → s.heap.objs.size ≤ f → H1 c' = some (CodeO c' (X.env.qual ++ "<lambda>")) → Q (.ref f) s') :
    wpAny (model X.prog X.w) X.A (eval (.Lambda params body scope pos) X.env) Q E s := by
  obtain ⟨ps, hP, ht, ha⟩ := hT _ hm
  refine PySem.W.kla_eval hdef ?_
  have bP : s.heap.BuiltinsAt X.mg P := TB.bm.keeps I.bk
  have hP' : s.heap.get? P = some { cls := .none, data := .fields ps } := I.hok P _ hP
  cases hc : codeAmong pos ps.toList with
  | none =>
    refine PySem.W.kla_makeFunction (mg := X.mg) (c := c) (P := P) (ps := ps) (closure_ok hfree) I.ok.glob (I.mod.glob.keeps I.bk) hcode (TB.code.keeps I.bk) hP' ht hc TB.gP bP fun c' ctv h' tk hx hge hlt hrec htb => ?_
    obtain ⟨c2, oc, vs, t, e2, hoc, hd, hv⟩ := hrec
    cases e2
    have sz : s.heap.objs.size ≤ h'.objs.size := Nat.le_trans hge (Nat.le_of_lt hlt)
    have nC : H c' = none := I.hok.fresh hge
    have I1 := inv_table (t' := tk) (more := #[rawInt pos.line, rawInt pos.col, .ref c']) (h' := h'.push (PySem.W.kla_obj "<lambda>" (X.env.qual ++ "<lambda>") params body scope (cloFrom X.env.cells scope.names []) ((X.mg "__name__").getD .none) c' ctv)) I hP (fun b o hb e => Heap.get?_push_of_some _ (hx b o hb e)) (Heap.get?_push_of_some _ htb) hge
      ⟨oc, vs, t, Heap.get?_push_of_some _ hoc, hd, hv⟩
    have hE : ExtN H (upd (upd H P (.tbl (ps ++ #[rawInt pos.line, rawInt pos.col, .ref c']))) c' (CodeO c' (X.env.qual ++ "<lambda>"))) := fun b o e n => by
      rw [upd_ne (ne_of_none e nC), upd_ne (fun z => n ps (Option.some.inj (e.symm.trans (by rw [z]; exact hP))))]
      exact e
    have eL : (ps ++ #[rawInt pos.line, rawInt pos.col, .ref c']).toList = ps.toList ++ [rawInt pos.line, rawInt pos.col, .ref c'] := by simp
    refine h h'.objs.size c' ((X.mg "__name__").getD .none) ctv _ _ I1 hE (fun p hp => ?_) (Heap.get?_push_size _ rfl) ?_ sz upd_same
    · by_cases hb : p.1 = P
      · rw [hu p hp hb, hb]
        refine ⟨_, by rw [upd_ne (ne_of_none hP nC), upd_same], by rw [eL]; exact PySem.TriplesOk_snoc _ _ _ _ ht, fun p' cv hcv => ?_⟩
        rw [eL] at hcv
        rcases among_app _ ht hcv with z | z
        · obtain ⟨c0, e1, e2⟩ := ha p' cv z
          exact ⟨c0, e1, hE _ _ e2 codeO_ne⟩
        · exact ⟨c', z, upd_same⟩
      · obtain ⟨ps', a1, a2, a3⟩ := hT p hp
        refine ⟨ps', by rw [upd_ne (ne_of_none a1 nC), upd_ne hb]; exact a1, a2, fun p' cv hcv => ?_⟩
        obtain ⟨c0, e1, e2⟩ := a3 p' cv hcv
        exact ⟨c0, e1, hE _ _ e2 codeO_ne⟩
    · have n1 : h'.objs.size ≠ c' := Nat.ne_of_gt hlt
      have n2 : h'.objs.size ≠ P := Nat.ne_of_gt (Nat.lt_of_lt_of_le (Heap.lt_size hP') sz)
      rw [upd_ne n1, upd_ne n2]
      exact I.hok.fresh sz
  | some cv =>
    obtain ⟨c', e, hco⟩ := ha pos cv hc
    subst e
    refine PySem.W.kla_makeFunctionHit (mg := X.mg) (c := c) (P := P) (ps := ps) (closure_ok hfree) I.ok.glob (I.mod.glob.keeps I.bk) hcode (TB.code.keeps I.bk) hP' ht hc bP fun ctv h' tk hx hsz => ?_
    have I1 : Inv X pins σ H { s with heap := h'.push (PySem.W.kla_obj "<lambda>" (X.env.qual ++ "<lambda>") params body scope (cloFrom X.env.cells scope.names []) ((X.mg "__name__").getD .none) c' ctv), toks := tk } := I.kept fun b o e => Heap.get?_push_of_some _ (hx b o e)
    exact h h'.objs.size c' ((X.mg "__name__").getD .none) ctv H _ I1 (ExtN.refl H) hT (Heap.get?_push_size _ rfl) (I.hok.fresh hsz) hsz hco
end
/-- lambda: .., as a value -/
def tLamV (X : Cx) (T : List (Addr × Str)) (D : LamD) : TE := fun _ H Q => Tabs T H ∧ ∀ (f c' : Addr) (H1 : Hp), ExtN H H1 → Tabs T H1 → H1 f = none → H1 c' = some (CodeO c' (X.env.qual ++ "<lambda>")) → Q (.ref f) (upd H1 f (LamO X.env.qual X.env.cells D c' f))
theorem pe_lamV {X : Cx} {T : List (Addr × Str)} {c P : Addr} {params : Arguments} {body : Expr} {scope : Scope} {pos : Pos} (TB : TabB X.base X.mg c P) (hcode : X.env.code = .ref c) (hm : (P, X.env.qual ++ "<lambda>") ∈ T) (hu : ∀ p ∈ T, p.1 = P → p.2 = X.env.qual ++ "<lambda>")
    (L : LamS X.env.scope scope) (hdef : defaultsOf params X.env = ([], [])) : PE X (.Lambda params body scope pos) (tLamV X T ⟨params, body, scope⟩) := by
  refine ⟨fun pins s σ H Q I h => lam_make3 I TB hcode hm hu h.1 hdef (L.has I.ok) fun f c' pm ctv H1 s' I1 eN T1 hf hfn hsz hco => ?_⟩
  have lt : ∀ {b : Addr} {o : Obj}, s.heap.get? b = some o → b ≠ f := fun e => Nat.ne_of_lt (Nat.lt_of_lt_of_le (Heap.lt_size e) hsz)
  have n0 : X.s_0.heap.get? f = none := by
    cases e : X.s_0.heap.get? f with
    | none => rfl
    | some o => exact absurd (Nat.lt_of_lt_of_le (Heap.lt_size e) (Nat.le_trans I.sz hsz)) (Nat.lt_irrefl _)
  refine ⟨.ref f, _, adopt I1 n0 hfn (lamO_ok hf) (Nat.ne_of_gt (Nat.lt_of_lt_of_le I.lt hsz)) (fun y cc e => ?_) (fun p hp => ?_), rfl, h.2 f c' H1 eN T1 hfn hco⟩
  · obtain ⟨v, o, ho, _⟩ := I.cell y cc e
    exact lt ho
  · exact lt (I.pin p hp).1
section
variable {X : Cx} {pins : List (Addr × Obj)} {σ : L2.St} {H HZ : Hp} {s s1 : Shared}
/-- a(), in the def that got the lambda: Z is that def's context, entered at s -/
theorem pe_act2 {CXg : CXT} {Eg : XK} {Ng : List Str} {qg : Str} {sg : Scope} {g f : Addr} {cdg : Value} {n : Nat} {fam : Nat → LamD} {t : Nat → XK → TE} {k i : Nat} {a : Str} {pn : List (Addr × Obj)} {xe : Value → Shared → Prop} {W : WX} {p1 p2 : Pos} (I : Inv X pins σ H s)
    (L : ∀ j, j < n → LamS X.env.scope (fam j).scope) (hbind : ∀ j, j < n → ∀ (q : Str) (cl : List (Str × Addr)) (pm cv ctv : Value), bindArgs (PySem.W.kla_fn "<lambda>" q (fam j).params (fam j).body (fam j).scope cl pm cv ctv) ⟨[], []⟩ = pure [])
    (tk : Takes ((cxOf CXg X.prog X.w X.K X.mg X.base Ng qg sg g cdg X.A X.stack s H Eg).tr pn xe) W) (hr : Room (k + 1) (X.A.deeper (envOfC qg sg s.heap.objs.size g cdg)))
    (hbody : ∀ j, j < n → ∀ (A : Around) (outer : List Env) (s : Shared) (H : Hp) (E : XK) (c' : Addr), Room k (A.deeper (lamEnv X (fam j).scope s.heap.objs.size f c')) → PE (lamCx X A outer s H E (fam j).scope f c') (fam j).body (t j E))
    (hN : Ng[i]? = some a) (hv : Vis sg a) (hd : (a == ("__debug__" : Str)) = false := by decide) (hcd : (a == ("__classdict__" : Str)) = false := by decide) :
    PE ((cxOf CXg X.prog X.w X.K X.mg X.base Ng qg sg g cdg X.A X.stack s H Eg).tr pn xe) (.Call (.Name a p1) [] [] p2)
      (fun σZ HZ Q => σZ[i]? = some (some (.ref f)) ∧ ∃ (j : Nat) (c' : Addr) (E : XK), j < n ∧ HZ f = some (LamO X.env.qual X.env.cells (fam j) c' f) ∧ HZ c' = some (CodeO c' (X.env.qual ++ "<lambda>")) ∧ (∀ cls d H', E cls d H' → W cls d σZ H') ∧ t j E σ HZ Q) := by
  refine ⟨fun pinsZ sZ σZ HZ Q IZ h => ?_⟩
  obtain ⟨hs, j, c', E, hj, hL, hc, hW, ht⟩ := h
  refine wpAny_Call_Name_kw (thn ((pe_var (pos := p1) (i := i) hN hv hd hcd).run pinsZ sZ σZ HZ (fun v H1 => v = .ref f ∧ H1 = HZ) IZ ⟨.ref f, hs, rfl, rfl⟩) fun u s1 hh => ?_)
  obtain ⟨v, H1, I1, r1, ev, eH⟩ := hh
  subst ev
  rw [eH] at I1
  obtain rfl : u = Value.ref f := r1
  obtain ⟨⟨pm, ctv, of1⟩, _, _⟩ := I1.hok f _ hL
  refine PySem.W.callWith_F0 ⟨_, _, _, _, of1⟩ ?_
  have un : Un (frs X.stack) [] H HZ s.heap s1.heap := I1.base
  obtain ⟨⟨oc, vs, tt, hoc, hdc, hvc⟩, _, _⟩ := I1.hok c' _ hc
  have rc : codeAny (model X.prog X.w) (X.A.deeper (envOfC qg sg s.heap.objs.size g cdg)) (.call (.ref f) ⟨[], []⟩) (CR (L2.CX X.prog X.w) (envOfC qg sg s.heap.objs.size g cdg :: X.stack) X.prog X.w HZ s1 Q E) s1 := by
    refine PySem.W.kla_callFunE hr.depth of1 rfl (L j hj).co (L j hj).gen rfl ⟨c', oc, vs, tt, rfl, hoc, hdc, hvc⟩ ?_
    rw [hbind j hj]
    refine wpAny_pure (wpAny_newFunctionEnv (fun y hy => ((L j hj).own y hy).2) (fun y hy => absurd hy (by simp)) (fun h₁ hns hsb => ⟨I1.nolimit.fresh _ hsb, ?_⟩) (L j hj).kind)
    show codeAny _ _ (.expr (fam j).body (lamEnv X (fam j).scope s1.heap.objs.size f c')) _ _
    have kp : ∀ b o, s1.heap.get? b = some o → h₁.get? b = some o := fun b o e => hsb.extBut b o (Nat.ne_of_lt (Heap.lt_size e)) (Heap.get?_push_of_some _ e)
    have J : Inv (lamCx X (X.A.deeper (envOfC qg sg s.heap.objs.size g cdg)) (envOfC qg sg s.heap.objs.size g cdg :: X.stack) s1 HZ E (fam j).scope f c') [] σ HZ { s1 with heap := h₁, toks := s1.toks + ([] : List (Str × Value)).length } :=
      lam_start2 I (L j hj) I1.env0 hr.hd un hns kp
    refine PySem.W.kla_codeExpr (wpAny_mono ((hbody j hj _ _ s1 HZ E c' (hr.deeper _)).run [] _ _ HZ Q J ht) (fun v s' hq => ?_) fun e s' hq => hq)
    obtain ⟨w', H', J', rv, q⟩ := hq
    exact ⟨w', H', J'.os, J'.bare, J'.base, J'.hok, rv, q⟩
  refine wpAny_call (codeAny_mono rc fun r s' hq => ?_)
  cases r with
  | error e => exact tk e s' (XE.of_call I1 (fun cls d H' h => hW cls d H' h) hq)
  | ok fl =>
    cases fl with
    | ret u => exact I1.after hq
    | next => exact False.elim hq
    | brk => exact False.elim hq
    | cont => exact False.elim hq
end
/-- the def that calls what it got: a calls it; TT: what it makes of the lambda's reading -/
def Calls2 (X : Cx) (Ng : List Str) (x : Str) (sg : Scope) (g : Addr) (cdg : Value) (bg : List Stmt) (a : Str) (TT : (XK → Hp → VK → Prop) → Hp → VK → Prop) : Prop :=
  ∀ (f : Addr) (s : Shared) (H : Hp) (Q : VK) (tl : XK → Hp → VK → Prop),
    (∀ (W : WX) (pn : List (Addr × Obj)) (xe : Value → Shared → Prop) (p1 p2 : Pos), Takes ((cxOf CX0 X.prog X.w X.K X.mg X.base Ng x sg g cdg X.A X.stack s H E0).tr pn xe) W →
      PE ((cxOf CX0 X.prog X.w X.K X.mg X.base Ng x sg g cdg X.A X.stack s H E0).tr pn xe) (.Call (.Name a p1) [] [] p2) (fun σZ HZ Q => σZ[0]? = some (some (.ref f)) ∧ Same H HZ ∧ ∃ E, (∀ cls d H', E cls d H' → W cls d σZ H') ∧ tl E HZ Q)) →
    TT tl H Q → ∃ t, PSs (cxOf CX0 X.prog X.w X.K X.mg X.base Ng x sg g cdg X.A X.stack s H E0).nox bg t ∧ t { nx := fun _ H' => Q .non H', rt := Q } (L2.start Ng [.ref f]) H
/-- x(e), e one of these lambdas -/
def tTold (X : Cx) (n : Nat) (fam : Nat → LamD) (t : Nat → XK → TE) (TT : (XK → Hp → VK → Prop) → Hp → VK → Prop) (te : TE) : TE := fun σ H Q => te σ H fun v H1 => ∃ (f c' : Addr) (j : Nat), v = .ref f ∧ j < n ∧ H1 f = some (LamO X.env.qual X.env.cells (fam j) c' f) ∧ H1 c' = some (CodeO c' (X.env.qual ++ "<lambda>")) ∧
  TT (fun E H' Q' => t j E σ H' Q') H1 Q
theorem pe_told {X : Cx} {TT : (XK → Hp → VK → Prop) → Hp → VK → Prop} {x a : Str} {g : Addr} {k n : Nat} {pg : Arguments} {bg : List Stmt} {sg : Scope} {fd : FuncData} {Ng : List Str} {fam : Nat → LamD} {t : Nat → XK → TE} {e : Expr} {te : TE} {p pos : Pos} (hg : Gl X x) (hm : X.mg x = some (.ref g))
    (F : FunD X.K x x pg bg sg [] [] g fd) (hb : Binds X.K fd [a] []) (Sg : FnScope Ng [a] sg) (hNg : Ng[0]? = some a) (hva : Vis sg a) (hG : ∀ cdg : Value, Calls2 X Ng x sg g cdg bg a TT) (hr : Room (k + 2) X.A) (L : ∀ j, j < n → LamS X.env.scope (fam j).scope)
    (hbind : ∀ j, j < n → ∀ (q : Str) (cl : List (Str × Addr)) (pm cv ctv : Value), bindArgs (PySem.W.kla_fn "<lambda>" q (fam j).params (fam j).body (fam j).scope cl pm cv ctv) ⟨[], []⟩ = pure [])
    (hbody : ∀ j, j < n → ∀ (A : Around) (outer : List Env) (s : Shared) (H : Hp) (E : XK) (f c' : Addr), Room k (A.deeper (lamEnv X (fam j).scope s.heap.objs.size f c')) → PE (lamCx X A outer s H E (fam j).scope f c') (fam j).body (t j E)) (he : PE X e te)
    (hs : starEach [e] X.env = (false, eval e X.env) :: starEach [] X.env := by rfl) (hdb : (x == ("__debug__" : Str)) = false := by decide) (hd : (a == ("__debug__" : Str)) = false := by decide) (hcd : (a == ("__classdict__" : Str)) = false := by decide) :
    PE X (.Call (.Name x p) [e] [] pos) (tTold X n fam t TT te) := by
  refine ⟨fun pins s σ H Q I h => ?_⟩
  refine wpAny_Call_Name_kw (ld_glob I hg hm ?_ hdb)
  refine PySem.W.callWith_K (h₀ := X.base) I.ok.mod.kin F.kp ?_ hs (by rfl)
  rw [hs]
  show wpAny _ _ (spliced ((false, eval e X.env) :: backTo pos (starEach [] X.env))) _ _ s
  refine Calls.spliced_cons (thn (he.run pins s σ H _ I h) fun u s' hh => ?_)
  obtain ⟨v, H1, I1, rv, f, c', j, rfl, hj, hL, hc, hT⟩ := hh
  cases (show u = Value.ref f from rv)
  refine Calls.spliced_nil ⟨I1.kIn, ?_⟩
  obtain ⟨oc, od, dV, kV, doc, pm, an, cdv, ct, osl, rfl, lk, hcd2, _, _⟩ := F.ex
  have rc : codeAny (model X.prog X.w) X.A (.call (.ref g) ⟨[.ref f], []⟩) (CR CX0 X.stack X.prog X.w H1 s' Q E0) s' := by
    refine LamX.run_ofS (N := Ng) (ps := [a]) (us := [.ref f]) (vs := [.ref f]) lk hcd2 Sg hr I1.env0 (hb s' [.ref f] I1.kIn rfl) (.cons rfl .nil) rfl fun hr' => ?_
    have act : ∀ (W : WX) (pn : List (Addr × Obj)) (xe : Value → Shared → Prop) (p1 p2 : Pos), Takes ((cxOf CX0 X.prog X.w X.K X.mg X.base Ng x sg g cdv X.A X.stack s' H1 E0).tr pn xe) W →
        PE ((cxOf CX0 X.prog X.w X.K X.mg X.base Ng x sg g cdv X.A X.stack s' H1 E0).tr pn xe) (.Call (.Name a p1) [] [] p2) (fun σZ HZ Q => σZ[0]? = some (some (.ref f)) ∧ Same H1 HZ ∧ ∃ E, (∀ cls d H', E cls d H' → W cls d σZ H') ∧ t j E σ HZ Q) := by
      intro W pn xe p1 p2 tk
      refine ⟨fun pinsZ sZ σZ HZ Q2 IZ h2 => ?_⟩
      obtain ⟨h3, sm, E, h4, h5⟩ := h2
      exact (pe_act2 (i := 0) (p1 := p1) (p2 := p2) I1 L hbind tk hr' (fun j hj A outer s H E c' hr2 => hbody j hj A outer s H E f c' hr2) hNg hva hd hcd).run pinsZ sZ σZ _ Q2 IZ ⟨h3, j, c', E, hj, sm _ _ hL, sm _ _ hc, h4, h5⟩
    obtain ⟨t', ht', hq'⟩ := hG cdv f s' H1 Q (fun E H' Q' => t j E σ H' Q') act hT
    exact ⟨t', ht'.nox, hq'⟩
  refine wpAny_call (codeAny_mono rc fun r s2 hq => ?_)
  cases r with
  | error e => exact (show False from hq).elim
  | ok fl =>
    cases fl with
    | ret u => exact I1.after hq
    | next => exact False.elim hq
    | brk => exact False.elim hq
    | cont => exact False.elim hq
end Lw

set_option Elab.async false
set_option linter.all false
set_option maxRecDepth 100000
set_option maxHeartbeats 4000000
/-! The head by a check of one's own, classes with properties and static defs among it. -/
namespace Lw
open PySem PySem.Spec PyProof.Rows L2
def obsC (chk : PySem.W.Frag → Bool) (fn : List He5.DefA) (K : PySem.W.Frag) : He.AlD := (chk K && fn.all fun d => d.ok K, fn.map fun d => He5.fnA K (d.at_ K))
def SaysC (chk : PySem.W.Frag → Bool) (fn : List He5.DefA) (K : PySem.W.Frag) : Prop := obsC chk fn K = He5.valA fn
def obsCG (n : Nat) (chk : PySem.W.Frag → Bool) (fn : List He5.DefA) (g : Addr → Option Obj) : He.AlD := obsC chk fn (He.frG g (He5.asA g n))
def hookC (n : Nat) (chk : PySem.W.Frag → Bool) (fn : List He5.DefA) : PySem.W.Hook where
  α := He.AlD
  obs := fun s => obsCG n chk fn s.heap.get?
  val := fun _ => He5.valA fn
  says := fun _ h => ∃ K : PySem.W.Frag, K.In h ∧ SaysC chk fn K
  of := fun _ _ e => ⟨_, He.frG_in, e⟩
  keeps := fun _ _ _ ⟨K, hK, c⟩ k => ⟨K, PySem.W.Frag.In.keeps hK k, c⟩
theorem obsCG_eq {n : Nat} {chk : PySem.W.Frag → Bool} {fn : List He5.DefA} {g : Addr → Option Obj} {s : Shared} (h : ∀ a, g a = s.heap.get? a) : obsCG n chk fn g = (hookC n chk fn).obs s := by
  have e : g = s.heap.get? := funext h
  rw [e] <;> rfl
theorem SaysC.chk {chk : PySem.W.Frag → Bool} {fn : List He5.DefA} {K : PySem.W.Frag} (c : SaysC chk fn K) : chk K = true :=
  (He.ba (show (chk K && fn.all fun d => d.ok K) = true from congrArg (fun z : He.AlD => z.1) c)).1
theorem SaysC.def_ {chk : PySem.W.Frag → Bool} {fn : List He5.DefA} {K : PySem.W.Frag} (c : SaysC chk fn K) (i : Nat) {d : He5.DefA} (h : fn[i]? = some d := by rfl) : ∃ fd, FunD K d.name d.qual d.params d.body d.scope (d.dvs K) (d.kws K) (d.at_ K) fd := by
  have c2 := (He.ba (show (chk K && fn.all fun d => d.ok K) = true from congrArg (fun z : He.AlD => z.1) c)).2
  have e : fn.map (fun d => He5.fnA K (d.at_ K)) = fn.map He5.DefA.val := congrArg (fun z : He.AlD => z.2) c
  have e2 : (fn.map fun d => He5.fnA K (d.at_ K))[i]? = (fn.map He5.DefA.val)[i]? := by rw [e]
  rw [List.getElem?_map, List.getElem?_map, h] at e2
  exact He5.DefA.funD (Option.some.inj e2) (List.all_eq_true.mp c2 d (List.mem_of_getElem? h))
section
variable {K : PySem.W.Frag} {C : Addr} {m : Str}
/-- the class has the property m -/
def propB (K : PySem.W.Frag) (C : Addr) (m : Str) : Bool := He.eqO (PySem.W.findIn K (.ref C) m) (some (some (.ref (He.ma K C m)))) && (He.eqO (PySem.W.specialIn K (.ref (He.ma K C m)) "__get__") (some (some (.builtin "property.__get__"))) &&
  (decide (PySem.W.takesIn K (.ref (He.ma K C m)) = some true) && (match PySem.W.recIn K (He.ma K C m) "property" with
    | some (.ref _ :: _) => true
    | _ => false)))
theorem propB_ok (h : propB K C m = true) : PropOf K C m (He.ma K C m) (He5.wf K C "property" m) := by
  obtain ⟨h1, h⟩ := He.ba h
  obtain ⟨h2, h⟩ := He.ba h
  obtain ⟨h3, h4⟩ := He.ba h
  refine ⟨He.eqO_ok h1, He.eqO_ok h2, of_decide_eq_true h3, ?_⟩
  unfold He5.wf
  split at h4
  · rename_i f r e
    exact ⟨r, by rw [e]⟩
  · cases h4
/-- the class has the static def m -/
def statB (K : PySem.W.Frag) (C : Addr) (m : Str) : Bool := He5.wrapB K C "staticmethod" "staticmethod.__get__" m && (PySem.W.readsIn K C (.type "type") && (PySem.W.handedIn (.ref (He5.wf K C "staticmethod" m)) &&
  (He.eqO (PySem.W.specialIn K (.ref C) "__getattribute__") (some (some (.builtin "type.__getattribute__"))) && PySem.W.keepIn K (.ref (He5.wf K C "staticmethod" m)))))
theorem statB_ok (h : statB K C m = true) : StaticOf K C m (He.ma K C m) (He5.wf K C "staticmethod" m) := by
  obtain ⟨h1, h⟩ := He.ba h
  obtain ⟨h2, h⟩ := He.ba h
  obtain ⟨h3, h⟩ := He.ba h
  obtain ⟨h4, h5⟩ := He.ba h
  obtain ⟨f1, f2⟩ := He5.wrapB_ok h1
  exact ⟨h2, f1, f2, h3, He.eqO_ok h4, h5⟩
end
end Lw

set_option Elab.async false
set_option linter.all false
set_option maxRecDepth 100000
set_option maxHeartbeats 4000000
/-! A law whose defs make lambdas: the tables of code objects, empty when the law is entered. -/
namespace Lw
open PySem PySem.Spec PyProof.Rows L2 LamX
/-- what is tracked when the law is entered: the script (or nothing) at a, the tables -/
def trk (a : Addr) (sc : Option HO) (ts : List Addr) : Hp := fun b => if b = a then sc else if b ∈ ts then some (.tbl #[]) else none
theorem trk_a {a : Addr} {sc : Option HO} {ts : List Addr} : trk a sc ts a = sc := if_pos rfl
theorem trk_t {a : Addr} {sc : Option HO} {ts : List Addr} {b : Addr} (n : b ≠ a) (h : b ∈ ts) : trk a sc ts b = some (.tbl #[]) := (if_neg n).trans (if_pos h)
theorem trk_o {a : Addr} {sc : Option HO} {ts : List Addr} {b : Addr} (n : b ≠ a) (h : b ∉ ts) : trk a sc ts b = none := (if_neg n).trans (if_neg h)
/-- the law's own call -/
theorem lawG_callT {P : Program} {w : World} {K : PySem.W.Frag} {mg mb : Str → Option Value} {CX : CXT} {k : Nat} {fa a : Addr} {cs : List (Addr × Addr)} {fd : FuncData} {x : Str} {sp : Sp} {s₁ : Shared} {vs : List Value} {ns : List Int}
    (KX : K.In s₁.heap) (hns : s₁.heap.Ns mainGlobals mg) (hb : s₁.heap.Ns builtinsNs mb) (hbb : ∀ x : Str, x ≠ "__name__" → mb x = bootBuiltins x) (hlim : s₁.heap.NoLimit) (hg : s₁.gens = #[])
    (hT : ∀ p ∈ cs, s₁.heap.get? p.2 = some { cls := .none, data := .fields #[] }) (nT : ∀ p ∈ cs, K.lookup p.2 = none) (hC : ∀ p ∈ cs, PySem.W.codeHdIn K p.1 p.2 = true)
    (hbm : ∃ (bm : Addr) (ob : Obj), mg "__builtins__" = some (.ref bm) ∧ bm ≠ builtinsNs ∧ s₁.heap.get? bm = some ob ∧ ob.cls = .type "module" ∧ ob.dict = some builtinsNs ∧ ob.data = .plain)
    (ha : s₁.heap.get? a = some { cls := .type "list", data := .seq vs.toArray }) (hi : IntsAre vs ns) (hl : ns.length ≤ sizeLine) (hr : Room k callerA)
    (F : ∀ base : Heap, K.In base → base.Ns mainGlobals mg → (∀ p ∈ cs, TabB base mg p.1 p.2) → FnG P w K mg base CX k fa fd [x] sp) (hbind : ∀ (s : Shared) (u : Value), BindsTo s fd ⟨[u], []⟩ [(x, u)])
    (hsp : ∀ H : Hp, (∀ p ∈ cs, H p.2 = some (.tbl #[])) → SqL K H a (ns.map V.int) → sp [.ref a] H (fun v _ => v = .bl true) fun _ _ _ => False) (hCX : ∀ H e s', CX [] H s₁ (fun _ _ _ => False) e s' → False) :
    codeAny (model P w) callerA (.call (.ref fa) ⟨[.ref a], []⟩) (fun r s' => r = .ok (.ret (.bool true)) ∧ OldK s₁.heap s'.heap ∧ s'.os = s₁.os ∧ AllBare s'.gens) s₁ := by
  have inT : ∀ {b : Addr}, b ∈ cs.map (·.2) → ∃ p ∈ cs, p.2 = b := fun h => List.mem_map.mp h
  have tObj : ∀ {b : Addr}, b ∈ cs.map (·.2) → s₁.heap.get? b = some { cls := .none, data := .fields #[] } := fun h => by
    obtain ⟨p, hp, rfl⟩ := inT h
    exact hT p hp
  have aT : a ∉ cs.map (·.2) := fun z => by
    have e := tObj z
    rw [ha] at e
    cases e
  have pa : ∀ p ∈ cs, p.2 ≠ a ∧ p.2 ∈ cs.map (·.2) := fun p hp => ⟨fun z => aT (by rw [← z]; exact List.mem_map_of_mem hp), List.mem_map_of_mem hp⟩
  have rv : Vals (ns.map V.int) vs := vals_ints hi
  have len := hi.length
  have go : ∀ sc : Option HO, (sc = none ∨ ∃ ob xs, sc = some (.frz ob (.lst xs))) → (sc ≠ none → K.lookup a = none) → SqL K (trk a sc (cs.map (·.2))) a (ns.map V.int) → (∀ o, sc = some o → ObjOk P w (trk a sc (cs.map (·.2))) s₁.heap a o) →
      codeAny (model P w) callerA (.call (.ref fa) ⟨[.ref a], []⟩) (fun r s' => r = .ok (.ret (.bool true)) ∧ OldK s₁.heap s'.heap ∧ s'.os = s₁.os ∧ AllBare s'.gens) s₁ := by
    intro sc hsc noK sq okA
    have hok : HOk P w (trk a sc (cs.map (·.2))) s₁.heap := fun b o e => by
      by_cases hba : b = a
      · subst hba
        exact okA o (trk_a.symm.trans e)
      · by_cases hbt : b ∈ cs.map (·.2)
        · cases (trk_t hba hbt).symm.trans e
          exact tObj hbt
        · cases (trk_o hba hbt).symm.trans e
    -- what is neither a list nor an empty table is hidden from nobody
    have shown : ∀ {b : Addr} {o : Obj}, s₁.heap.get? b = some o → (∀ xs n, o.data ≠ .seq xs n) → o.data ≠ .fields #[] → (hidT s₁.heap (trk a sc (cs.map (·.2)))).get? b = some o := fun {b o} e h1 h2 => hidT_get e (by
      refine trk_o (fun z => ?_) fun z => ?_
      · rw [z, ha] at e
        cases e
        exact h1 _ _ rfl
      · rw [tObj z] at e
        cases e
        exact h2 rfl)
    have kns : ∀ {b : Addr} {m : Str → Option Value}, s₁.heap.Ns b m → (hidT s₁.heap (trk a sc (cs.map (·.2)))).Ns b m := by
      rintro b m ⟨o, es, ep, z, d, r⟩
      exact ⟨o, es, ep, shown z (fun xs n y => by rw [d] at y; cases y) (fun y => by rw [d] at y; cases y), d, r⟩
    have kin : K.In (hidT s₁.heap (trk a sc (cs.map (·.2)))) := fun b o e => by
      refine hidT_get (KX b o e) ?_
      by_cases hba : b = a
      · subst hba
        rw [trk_a]
        rcases hsc with h | ⟨ob, xs, h⟩
        · exact h
        · rw [noK (by rw [h]; exact fun z => by cases z)] at e
          cases e
      · refine trk_o hba fun z => ?_
        obtain ⟨p, hp, rfl⟩ := inT z
        rw [nT p hp] at e
        cases e
    obtain ⟨mc, l1, l2⟩ := hlim
    have TB : ∀ p ∈ cs, TabB (hidT s₁.heap (trk a sc (cs.map (·.2)))) mg p.1 p.2 := fun p hp => by
      obtain ⟨bm, ob, b1, b2, b3, b4, b5, b6⟩ := hbm
      have nsd : ∀ {b : Addr} {m : Str → Option Value}, s₁.heap.Ns b m → ∃ o es ep, s₁.heap.get? b = some o ∧ o.data = .dict es ep := fun ⟨o, es, ep, e, d, _⟩ => ⟨o, es, ep, e, d⟩
      refine ⟨PySem.W.codeHd_of_K kin (hC p hp), ⟨bm, ob, b1, b2, fun z => ?_, fun z => ?_, shown b3 (fun xs n y => by rw [b6] at y; cases y) (fun y => by rw [b6] at y; cases y), b4, b5, b6⟩, fun z => ?_⟩
      · obtain ⟨o, es, ep, e, d⟩ := nsd hns
        rw [z, e] at b3
        cases b3
        rw [d] at b6
        cases b6
      · rw [z, hT p hp] at b3
        cases b3
        cases b6
      · obtain ⟨o, es, ep, e, d⟩ := nsd hns
        rw [z, hT p hp] at e
        cases e
        cases d
    have e0 : Env0 P w K mg (hidT s₁.heap (trk a sc (cs.map (·.2)))) callerA [] s₁ (trk a sc (cs.map (·.2))) :=
      { frames := rfl, mod := { kin := kin, glob := kns hns, blt := ⟨mb, kns hb, hbb⟩, nolimit := ⟨mc, kns l1, l2⟩ }, bs := fun _ _ z => of_hidT z, bsz := Nat.le_of_eq (hidT_size _ _), funs := trivial, frf := fun b z => (by cases (show b ∈ ([] : List Addr) from z)), hok := hok, bare := .of_eq hg }
    refine codeAny_mono ((F _ kin (kns hns) TB).run callerA [] s₁ _ ⟨[.ref a], []⟩ [.ref a] [.ref a] _ _ rfl hr e0 (hbind s₁ (.ref a)) (.cons rfl .nil) (hsp _ (fun p hp => trk_t (pa p hp).1 (pa p hp).2) sq)) ?_
    intro r s' h
    match r, h with
    | .error e, h => exact (hCX _ e s' h).elim
    | .ok .next, h => exact h.elim
    | .ok .brk, h => exact h.elim
    | .ok .cont, h => exact h.elim
    | .ok (.ret u), ⟨v, H', os, bare, un, hok', r', q⟩ =>
      cases (show v = V.bl true from q)
      cases (show u = Value.bool true from r')
      have kept : ∀ b o, b ∉ cs.map (·.2) → s₁.heap.get? b = some o → s'.heap.get? b = some o := fun b o nb z => by
        by_cases hba : b = a
        · subst hba
          rcases hsc with h | ⟨ob, xs, h⟩
          · exact un.keep b o z (trk_a.trans h) (fun y => by cases (show b ∈ ([] : List Addr) from y)) (by simp)
          · have n : trk b sc (cs.map (·.2)) b = some (.frz ob (.lst xs)) := trk_a.trans h
            obtain ⟨e1, _⟩ := hok b _ n
            obtain ⟨e2, _⟩ := hok' b _ (un.frzs b ob _ n)
            rw [z] at e1
            cases e1
            exact e2
        · exact un.keep b o z (trk_o hba nb) (fun y => by cases (show b ∈ ([] : List Addr) from y)) (by simp)
      have grew : ∀ p ∈ cs, ∃ more : Array Value, s'.heap.get? p.2 = some { cls := .none, data := .fields (#[] ++ more) } := fun p hp => by
        obtain ⟨more, z⟩ := un.tbls p.2 #[] (trk_t (pa p hp).1 (pa p hp).2)
        exact ⟨more, hok' p.2 _ z⟩
      refine ⟨rfl, ⟨fun b o z => ?_, fun b o z => ?_⟩, os, bare⟩
      · by_cases hbt : b ∈ cs.map (·.2)
        · obtain ⟨p, hp, rfl⟩ := inT hbt
          obtain ⟨more, e⟩ := grew p hp
          have e2 := hT p hp
          rw [z] at e2
          cases e2
          exact .inr (.inl ⟨((PySem.W.codeHd_of_K KX (hC p hp)).tab z).isCodeTable, rfl, #[], more, rfl, e⟩)
        · exact .inl (kept b o hbt z)
      · by_cases hbt : b ∈ cs.map (·.2)
        · obtain ⟨p, hp, rfl⟩ := inT hbt
          obtain ⟨more, e⟩ := grew p hp
          exact ⟨_, e⟩
        · exact ⟨_, kept b o hbt z⟩
  rcases hk : K.lookup a with _ | o
  · refine go (some (.frz { cls := .type "list", data := .seq vs.toArray } (.lst (ns.map V.int)))) (.inr ⟨_, _, rfl⟩) (fun _ => hk) (.inl (.inr ⟨_, trk_a⟩)) fun o e => ?_
    cases e
    exact ⟨ha, by rw [List.length_map]; exact hl, vs, _, rv, ha⟩
  · have e := KX a o hk
    rw [ha] at e
    cases e
    exact go none (.inl rfl) (fun z => (z rfl).elim) (.inr ⟨_, vs.toArray, _, hk, rfl, rfl, rfl, by rw [List.size_toArray, len]; exact hl, by simpa using rv⟩) fun o e => by cases e
theorem walkGT {l : PySem.W.OpenLaw} {n k : Nat} {q : Program} {loose : List Str} {XP : (Str → Option Value) → Heap → Prop} {YP : World → Heap → Prop} {d : DefRec} {CX : CXT} {x : Str}
    (hn : l.most = some n) (hn2 : n ≤ sizeLine) (hdf : d.params.defaults = []) (hr : Room k callerA)
    (F : ∀ (w : World) (mg : Str → Option Value) (fa : Addr) (h : Heap), YP w h → h.Ns mainGlobals mg → mg d.name = some (.ref fa) →
      ∃ (K : PySem.W.Frag) (cs : List (Addr × Addr)) (fd : FuncData) (sp : Sp), K.In h ∧ (∀ p ∈ cs, h.get? p.2 = some { cls := .none, data := .fields #[] }) ∧ (∀ p ∈ cs, K.lookup p.2 = none) ∧ (∀ p ∈ cs, PySem.W.codeHdIn K p.1 p.2 = true) ∧
        (∀ (s : Shared) (u : Value), BindsTo s fd ⟨[u], []⟩ [(x, u)]) ∧
        (∀ (H : Hp) (a : Addr) (ns : List Int), ns.length ≤ n → (∀ p ∈ cs, H p.2 = some (.tbl #[])) → SqL K H a (ns.map V.int) → sp [.ref a] H (fun v _ => v = .bl true) fun _ _ _ => False) ∧
        ∀ base : Heap, K.In base → base.Ns mainGlobals mg → (∀ p ∈ cs, TabB base mg p.1 p.2) → FnG l.prog w K mg base CX k fa fd [x] sp)
    (hCX : ∀ (H : Hp) (s : Shared) (e : Value) (s' : Shared), CX [] H s (fun _ _ _ => False) e s' → False) : PySem.W.WalkO q loose XP YP l.row.toRowW d [] (fun f vs => PySem.call f vs) := by
  refine Att.attach_call hn hdf fun w s₀ s₁ mg mb fa o pm cd doc a vs ns G Y ho hd hcd hmg hobj hints hlen hg => ?_
  obtain ⟨K, cs, fd, sp, kin, hT, nT, hC, bind, want, prom⟩ := F w mg fa _ Y G.T.g hmg
  exact lawG_callT kin G.T.g G.T.b G.T.builtins G.T.nolimit hg hT nT hC G.T.bmain hobj hints (Nat.le_trans hlen hn2) hr prom bind (fun H o S => want H a ns hlen o S) fun H e s' => hCX H s₁ e s'
/-! ### the head, tables left out of the written part -/
/-- a def's code object and the table of the code objects made in it -/
abbrev tabC (K : PySem.W.Frag) (x : Str) : Addr × Addr := He.cT K (x, none)
def obsCT (n : Nat) (chk : PySem.W.Frag → Bool) (fn : List He5.DefA) (tf : List He.Defn) (g : Addr → Option Obj) : He.AlX := ((obsC chk fn (He.frT g (He5.asA g n)), []), He.tabsB g tf (He.frT g (He5.asA g n)))
structure SaysCT (chk : PySem.W.Frag → Bool) (fn : List He5.DefA) (tf : List He.Defn) (h : Heap) (K : PySem.W.Frag) : Prop where
  c : SaysC chk fn K
  hd : ∀ p ∈ tf, PySem.W.codeHdIn K (He.cT K p).1 (He.cT K p).2 = true
  out : ∀ p ∈ tf, K.lookup (He.cT K p).2 = none
  empty : ∀ p ∈ tf, h.get? (He.cT K p).2 = some { cls := .none, data := .fields #[] }
theorem saysCT_of {n : Nat} {chk : PySem.W.Frag → Bool} {fn : List He5.DefA} {tf : List He.Defn} {h : Heap} (e : obsCT n chk fn tf h.get? = ((He5.valA fn, []), true)) : SaysCT chk fn tf h (He.frT h.get? (He5.asA h.get? n)) := by
  have e1 : obsC chk fn (He.frT h.get? (He5.asA h.get? n)) = He5.valA fn := congrArg (fun z : He.AlX => z.1.1) e
  have e2 : He.tabsB h.get? tf (He.frT h.get? (He5.asA h.get? n)) = true := congrArg (fun z : He.AlX => z.2) e
  have key : ∀ p ∈ tf, PySem.W.codeHdIn (He.frT h.get? (He5.asA h.get? n)) (He.cT (He.frT h.get? (He5.asA h.get? n)) p).1 (He.cT (He.frT h.get? (He5.asA h.get? n)) p).2 = true ∧ ∃ o, h.get? (He.cT (He.frT h.get? (He5.asA h.get? n)) p).2 = some o ∧ He.emptyTab o = true := fun p hp => by
    obtain ⟨h1, h2⟩ := He.ba (List.all_eq_true.mp e2 p hp)
    refine ⟨h1, ?_⟩
    revert h2
    rcases h.get? (He.cT (He.frT h.get? (He5.asA h.get? n)) p).2 with _ | o
    · exact fun z => by cases z
    · exact fun z => ⟨o, rfl, z⟩
  refine ⟨e1, fun p hp => (key p hp).1, fun p hp => ?_, fun p hp => ?_⟩
  · obtain ⟨_, o, q, z⟩ := key p hp
    exact He.frT_none q z
  · obtain ⟨_, o, q, z⟩ := key p hp
    rw [q, He.emptyTab_eq z]
def hookCT (n : Nat) (chk : PySem.W.Frag → Bool) (fn : List He5.DefA) (tf : List He.Defn) : PySem.W.Hook where
  α := He.AlX
  obs := fun s => obsCT n chk fn tf s.heap.get?
  val := fun _ => ((He5.valA fn, []), true)
  says := fun _ h => ∃ K : PySem.W.Frag, K.In h ∧ SaysCT chk fn tf h K
  of := fun _ _ e => ⟨_, He.frT_in, saysCT_of e⟩
  keeps := fun _ _ _ ⟨K, hK, c⟩ k => ⟨K, PySem.W.Frag.In.keeps hK k, ⟨c.c, c.hd, c.out, fun p hp => k _ _ (c.empty p hp)⟩⟩
theorem obsCT_eq {n : Nat} {chk : PySem.W.Frag → Bool} {fn : List He5.DefA} {tf : List He.Defn} {g : Addr → Option Obj} {s : Shared} (h : ∀ a, g a = s.heap.get? a) : obsCT n chk fn tf g = (hookCT n chk fn tf).obs s := by
  have e : g = s.heap.get? := funext h
  rw [e] <;> rfl
end Lw

set_option Elab.async false
set_option linter.all false
set_option maxRecDepth 100000
set_option maxHeartbeats 4000000
/-! A reckoning machine of its own for the defs of the text: values as trees, what may change as cells; what the heap bears of them. -/
namespace Py
open PySem PySem.Spec PyProof.Rows L2 Lw LamX

/-- a class: a built-in one, an own one -/
inductive Tag where
  | ty (n : String) | own (c : Str)
  deriving DecidableEq
def Tag.v (K : PySem.W.Frag) : Tag → V
  | .ty n => .ty n
  | .own c => .ref (He.ga K c)
def Tag.val (K : PySem.W.Frag) : Tag → Value
  | .ty n => .type n
  | .own c => .ref (He.ga K c)
/-- a value that nothing changes any more -/
inductive T where
  | non | bl (b : Bool) | int (i : Int) | str (x : Str)
  | tup (xs : List T) | lst (xs : List T) | dct (kvs : List (Key × T)) | scr (xs : List T)
  | obj (c : Str) (fs : List (Str × T)) | err (c : Str) (v : T) | fn (x : Str) | cl (g : Tag)
/-- a value: a tree, or a cell -/
inductive RV where
  | t (t : T) | r (n : Nat)
/-- what a cell holds -/
inductive Cell where
  | lst (xs : List T) | dct (kvs : List (Key × T)) | ins (c : Str) (fs : List (Str × T)) | fz (t : T)
abbrev Hs := List Cell
abbrev Ev := List (Option RV)

mutual
inductive Rep (K : PySem.W.Frag) (F : Hp) : T → V → Prop
  | non : Rep K F .non .non
  | bl (b : Bool) : Rep K F (.bl b) (.bl b)
  | int (i : Int) : Rep K F (.int i) (.int i)
  | str (x : Str) : Rep K F (.str x) (.str x)
  | tup {a : Addr} {ts : List T} {xs : List V} : SqT K F a xs → Reps K F ts xs → Rep K F (.tup ts) (.ref a)
  | lst {a : Addr} {ts : List T} {xs : List V} : F a = some (.lst xs) → Reps K F ts xs → Rep K F (.lst ts) (.ref a)
  | scr {a : Addr} {ts : List T} {xs : List V} : SqL K F a xs → Reps K F ts xs → Rep K F (.scr ts) (.ref a)
  | dct {a : Addr} {kts : List (Key × T)} {kvs : List (Key × V)} : Rd F a (.dK kvs) → RepK K F kts kvs → Rep K F (.dct kts) (.ref a)
  | obj {a dx : Addr} {c : Str} {ts : List (Str × T)} {fs : List (Str × V)} : F a = some (.ins (He.ga K c) dx fs) → F dx = some (.own a) → RepF K F ts fs → Rep K F (.obj c ts) (.ref a)
  | err {a : Addr} {c : Str} {t : T} {v : V} : ErrV F a (He.ga K c) v → Rep K F t v → Rep K F (.err c t) (.ref a)
  | fn {x : Str} : Rep K F (.fn x) (.ref (He.ga K x))
  | clT {n : String} : Rep K F (.cl (.ty n)) (.ty n)
  | clO {c : Str} : Rep K F (.cl (.own c)) (.ref (He.ga K c))
inductive Reps (K : PySem.W.Frag) (F : Hp) : List T → List V → Prop
  | nil : Reps K F [] []
  | cons {t : T} {v : V} {ts : List T} {vs : List V} : Rep K F t v → Reps K F ts vs → Reps K F (t :: ts) (v :: vs)
inductive RepK (K : PySem.W.Frag) (F : Hp) : List (Key × T) → List (Key × V) → Prop
  | nil : RepK K F [] []
  | cons {k : Key} {t : T} {v : V} {ts : List (Key × T)} {vs : List (Key × V)} : Rep K F t v → RepK K F ts vs → RepK K F ((k, t) :: ts) ((k, v) :: vs)
inductive RepF (K : PySem.W.Frag) (F : Hp) : List (Str × T) → List (Str × V) → Prop
  | nil : RepF K F [] []
  | cons {k : Str} {t : T} {v : V} {ts : List (Str × T)} {vs : List (Str × V)} : Rep K F t v → RepF K F ts vs → RepF K F ((k, t) :: ts) ((k, v) :: vs)
end

section
variable {K : PySem.W.Frag} {F F' : Hp}
mutual
theorem Rep.same (e : Same F F') : ∀ {t : T} {v : V}, Rep K F t v → Rep K F' t v
  | _, _, .non => .non
  | _, _, .bl b => .bl b
  | _, _, .int i => .int i
  | _, _, .str x => .str x
  | _, _, .tup h r => .tup (sqT_same e h) (Reps.same e r)
  | _, _, .lst h r => .lst (e _ _ h) (Reps.same e r)
  | _, _, .scr h r => .scr (e.seq h) (Reps.same e r)
  | _, _, .dct h r => .dct (h.elim (fun q => .inl (e _ _ q)) fun ⟨o, q⟩ => .inr ⟨o, e _ _ q⟩) (RepK.same e r)
  | _, _, .obj h h2 r => .obj (e _ _ h) (e _ _ h2) (RepF.same e r)
  | _, _, .err h r => .err (h.same e) (Rep.same e r)
  | _, _, .fn => .fn
  | _, _, .clT => .clT
  | _, _, .clO => .clO
theorem Reps.same (e : Same F F') : ∀ {ts : List T} {vs : List V}, Reps K F ts vs → Reps K F' ts vs
  | _, _, .nil => .nil
  | _, _, .cons h r => .cons (Rep.same e h) (Reps.same e r)
theorem RepK.same (e : Same F F') : ∀ {ts : List (Key × T)} {vs : List (Key × V)}, RepK K F ts vs → RepK K F' ts vs
  | _, _, .nil => .nil
  | _, _, .cons h r => .cons (Rep.same e h) (RepK.same e r)
theorem RepF.same (e : Same F F') : ∀ {ts : List (Str × T)} {vs : List (Str × V)}, RepF K F ts vs → RepF K F' ts vs
  | _, _, .nil => .nil
  | _, _, .cons h r => .cons (Rep.same e h) (RepF.same e r)
end
theorem Reps.len : ∀ {ts : List T} {vs : List V}, Reps K F ts vs → ts.length = vs.length
  | _, _, .nil => rfl
  | _, _, .cons _ r => congrArg (· + 1) r.len
theorem Reps.get : ∀ {ts : List T} {vs : List V} {i : Nat} {t : T}, Reps K F ts vs → ts[i]? = some t → ∃ v, vs[i]? = some v ∧ Rep K F t v
  | _, _, 0, _, .cons h _, e => ⟨_, rfl, by cases e; exact h⟩
  | _, _, i + 1, _, .cons _ r, e => r.get (i := i) e
  | _, _, _, _, .nil, e => by cases e
theorem Reps.getV : ∀ {ts : List T} {vs : List V} {i : Nat} {v : V}, Reps K F ts vs → vs[i]? = some v → ∃ t, ts[i]? = some t ∧ Rep K F t v
  | _, _, 0, _, .cons h _, e => ⟨_, rfl, by cases e; exact h⟩
  | _, _, i + 1, _, .cons _ r, e => r.getV (i := i) e
  | _, _, _, _, .nil, e => by cases e
theorem Reps.app : ∀ {ts us : List T} {vs ws : List V}, Reps K F ts vs → Reps K F us ws → Reps K F (ts ++ us) (vs ++ ws)
  | _, _, _, _, .nil, h => h
  | _, _, _, _, .cons h r, q => .cons h (r.app q)
theorem Reps.take : ∀ {ts : List T} {vs : List V} (n : Nat), Reps K F ts vs → Reps K F (ts.take n) (vs.take n)
  | _, _, 0, _ => by simp only [List.take_zero]; exact .nil
  | _, _, _ + 1, .nil => .nil
  | _, _, n + 1, .cons h r => .cons h (r.take n)
theorem Reps.drop : ∀ {ts : List T} {vs : List V} (n : Nat), Reps K F ts vs → Reps K F (ts.drop n) (vs.drop n)
  | _, _, 0, r => r
  | _, _, _ + 1, .nil => .nil
  | _, _, n + 1, .cons _ r => r.drop n
theorem Reps.set : ∀ {ts : List T} {vs : List V} {t : T} {v : V} (n : Nat), Reps K F ts vs → Rep K F t v → Reps K F (ts.set n t) (vs.set n v)
  | _, _, _, _, _, .nil, _ => .nil
  | _, _, _, _, 0, .cons _ r, q => .cons q r
  | _, _, _, _, n + 1, .cons h r, q => .cons h (r.set n q)
theorem Reps.rev {ts : List T} {vs : List V} (h : Reps K F ts vs) : Reps K F ts.reverse vs.reverse := by
  induction ts generalizing vs with
  | nil => cases h; exact .nil
  | cons t ts ih =>
    cases h with
    | cons h r =>
      rw [List.reverse_cons, List.reverse_cons]
      exact (ih r).app (.cons h .nil)
theorem RepF.lookup : ∀ {ts : List (Str × T)} {vs : List (Str × V)}, RepF K F ts vs → ∀ {f : Str}, (∀ t, ts.lookup f = some t → ∃ v, vs.lookup f = some v ∧ Rep K F t v) ∧ (ts.lookup f = none → vs.lookup f = none)
  | _, _, .nil, _ => ⟨fun _ e => (by cases e), fun _ => rfl⟩
  | _, _, .cons (k := k) h r, f => by
    simp only [List.lookup_cons]
    cases f == k with
    | true => exact ⟨fun t e => ⟨_, rfl, (by cases e; exact h)⟩, fun e => (by cases e)⟩
    | false => exact r.lookup
theorem RepK.len : ∀ {ts : List (Key × T)} {vs : List (Key × V)}, RepK K F ts vs → ts.length = vs.length
  | _, _, .nil => rfl
  | _, _, .cons _ r => congrArg (· + 1) r.len
end

/-! ### the frozen part of the heap -/
def Cell.live : Cell → Bool
  | .fz _ => false
  | _ => true
def live : List Addr → Hs → List Addr
  | a :: ρ, c :: h => if c.live then a :: live ρ h else live ρ h
  | _, _ => []
def isTbl : Option HO → Bool
  | some (.tbl _) => true
  | _ => false
/-- where the cells stand; what else is being changed -/
structure Pl where
  ad : List Addr
  ex : List Addr
/-- neither a cell that lives, nor being changed, nor a table of code objects -/
def Fz (ρ : Pl) (h : Hs) (H : Hp) : Hp := fun a => if a ∈ live ρ.ad h ++ ρ.ex then none else if isTbl (H a) then none else H a
theorem Fz.le {ρ : Pl} {h : Hs} {H : Hp} : Same (Fz ρ h H) H := fun b o e => by
  unfold Fz at e
  split at e
  · cases e
  · split at e
    · cases e
    · exact e
theorem live_sub {a : Addr} : ∀ {ρ : List Addr} {h : Hs}, a ∈ live ρ h → a ∈ ρ
  | b :: ρ, c :: h, m => by
    unfold live at m
    split at m
    · rcases List.mem_cons.mp m with e | m
      · exact e ▸ List.mem_cons_self
      · exact List.mem_cons_of_mem _ (live_sub m)
    · exact List.mem_cons_of_mem _ (live_sub m)
  | [], _, m => by cases m
  | _ :: _, [], m => by cases m
theorem live_ix {a : Addr} : ∀ {ρ : List Addr} {h : Hs}, a ∈ live ρ h → ∃ (i : Nat) (c : Cell), ρ[i]? = some a ∧ h[i]? = some c ∧ c.live = true
  | b :: ρ, c :: h, m => by
    unfold live at m
    by_cases hc : c.live = true
    · rw [if_pos hc] at m
      rcases List.mem_cons.mp m with e | m
      · exact ⟨0, c, by rw [e]; rfl, rfl, hc⟩
      · obtain ⟨i, c', h1, h2, h3⟩ := live_ix m
        exact ⟨i + 1, c', h1, h2, h3⟩
    · rw [if_neg hc] at m
      obtain ⟨i, c', h1, h2, h3⟩ := live_ix m
      exact ⟨i + 1, c', h1, h2, h3⟩
  | [], _, m => by cases m
  | _ :: _, [], m => by cases m
theorem mem_live {a : Addr} {c : Cell} (hc : c.live = true) : ∀ {ρ : List Addr} {h : Hs} {i : Nat}, ρ[i]? = some a → h[i]? = some c → a ∈ live ρ h
  | b :: ρ, d :: h, 0, e1, e2 => by
    cases e1
    cases e2
    unfold live
    rw [if_pos hc]
    exact List.mem_cons_self
  | b :: ρ, d :: h, i + 1, e1, e2 => by
    have m := mem_live hc (ρ := ρ) (h := h) (i := i) e1 e2
    unfold live
    split
    · exact List.mem_cons_of_mem _ m
    · exact m
  | [], _, _, e1, _ => by cases e1
  | _ :: _, [], _, _, e2 => by cases e2
theorem live_app : ∀ {ρ ρ' : List Addr} {h h' : Hs}, ρ.length = h.length → live (ρ ++ ρ') (h ++ h') = live ρ h ++ live ρ' h'
  | [], _, [], _, _ => by simp [live]
  | a :: ρ, ρ', c :: h, h', e => by
    have ih := live_app (ρ := ρ) (ρ' := ρ') (h := h) (h' := h') (Nat.succ.inj e)
    simp only [List.cons_append, live]
    rw [ih]
    split <;> rfl

/-- what a value stands for: a tree over the frozen part, or the address of a cell -/
def RepV (K : PySem.W.Frag) (F : Hp) (ρ : Pl) : RV → V → Prop
  | .t t, x => Rep K F t x
  | .r n, x => ∃ a, ρ.ad[n]? = some a ∧ x = .ref a
inductive RepVs (K : PySem.W.Frag) (F : Hp) (ρ : Pl) : List RV → List V → Prop
  | nil : RepVs K F ρ [] []
  | cons {t : RV} {v : V} {ts : List RV} {vs : List V} : RepV K F ρ t v → RepVs K F ρ ts vs → RepVs K F ρ (t :: ts) (v :: vs)
/-- what a cell stands for -/
def CellR (K : PySem.W.Frag) (F H : Hp) (a : Addr) : Cell → Prop
  | .lst xs => ∃ vs, H a = some (.lst vs) ∧ Reps K F xs vs
  | .dct kts => ∃ kvs, H a = some (.dK kvs) ∧ RepK K F kts kvs
  | .ins c ts => ∃ dx fs, H a = some (.ins (He.ga K c) dx fs) ∧ F dx = some (.own a) ∧ RepF K F ts fs
  | .fz t => Rep K F t (.ref a)
/-- a list, a dict, an instance -/
def Liv : HO → Prop
  | .lst _ => True
  | .dK _ => True
  | .ins _ _ _ => True
  | _ => False
/-- the surroundings that never change: the written part, the tables of code objects -/
structure Sur where
  K : PySem.W.Frag
  tb : List (Addr × Str)
structure Hst (C : Sur) (ρ : Pl) (h : Hs) (H : Hp) : Prop where
  len : ρ.ad.length = h.length
  nd : ρ.ad.Nodup
  has : ∀ a ∈ ρ.ad, ∃ o, H a = some o ∧ ∀ ps, o ≠ .tbl ps
  ex : ∀ a ∈ ρ.ex, a ∉ ρ.ad ∧ ∃ o, H a = some o ∧ Liv o
  cell : ∀ (i : Nat) (a : Addr) (c : Cell), ρ.ad[i]? = some a → h[i]? = some c → CellR C.K (Fz ρ h H) H a c
  tabs : Tabs C.tb H
/-- from one state to a later one: what is frozen stays, cells keep their places -/
structure Step (ρ : Pl) (h : Hs) (H : Hp) (ρ' : Pl) (h' : Hs) (H' : Hp) : Prop where
  pre : ∀ (i : Nat) (a : Addr), ρ.ad[i]? = some a → ρ'.ad[i]? = some a
  same : Same (Fz ρ h H) (Fz ρ' h' H')
  exq : ρ'.ex = ρ.ex
  exs : ∀ a ∈ ρ.ex, H' a = H a
theorem Step.refl {ρ : Pl} {h : Hs} {H : Hp} : Step ρ h H ρ h H := ⟨fun _ _ e => e, Same.refl _, rfl, fun _ _ => rfl⟩
theorem Step.trans {ρ ρ1 ρ2 : Pl} {h h1 h2 : Hs} {H H1 H2 : Hp} (a : Step ρ h H ρ1 h1 H1) (b : Step ρ1 h1 H1 ρ2 h2 H2) : Step ρ h H ρ2 h2 H2 :=
  ⟨fun i x e => b.pre i x (a.pre i x e), a.same.trans b.same, b.exq.trans a.exq, fun x m => (b.exs x (by rw [a.exq]; exact m)).trans (a.exs x m)⟩
theorem RepV.step {K : PySem.W.Frag} {ρ ρ' : Pl} {h h' : Hs} {H H' : Hp} (s : Step ρ h H ρ' h' H') : ∀ {v : RV} {x : V}, RepV K (Fz ρ h H) ρ v x → RepV K (Fz ρ' h' H') ρ' v x
  | .t _, _, r => Rep.same s.same r
  | .r _, _, ⟨a, e1, e2⟩ => ⟨a, s.pre _ _ e1, e2⟩
theorem RepVs.step {K : PySem.W.Frag} {ρ ρ' : Pl} {h h' : Hs} {H H' : Hp} (s : Step ρ h H ρ' h' H') : ∀ {v : List RV} {x : List V}, RepVs K (Fz ρ h H) ρ v x → RepVs K (Fz ρ' h' H') ρ' v x
  | _, _, .nil => .nil
  | _, _, .cons h r => .cons (h.step s) (r.step s)
structure EnvR (K : PySem.W.Frag) (F : Hp) (ρ : Pl) (env : Ev) (σ : L2.St) : Prop where
  len : env.length = σ.length
  get : ∀ (i : Nat) (v : RV), env[i]? = some (some v) → ∃ x, σ[i]? = some (some x) ∧ RepV K F ρ v x
theorem EnvR.step {K : PySem.W.Frag} {ρ ρ' : Pl} {h h' : Hs} {H H' : Hp} {env : Ev} {σ : L2.St} (r : EnvR K (Fz ρ h H) ρ env σ) (s : Step ρ h H ρ' h' H') : EnvR K (Fz ρ' h' H') ρ' env σ :=
  ⟨r.len, fun i v e => let ⟨x, e1, e2⟩ := r.get i v e; ⟨x, e1, e2.step s⟩⟩
theorem EnvR.set {K : PySem.W.Frag} {F : Hp} {ρ : Pl} {env : Ev} {σ : L2.St} {v : RV} {x : V} (i : Nat) (r : EnvR K F ρ env σ) (q : RepV K F ρ v x) : EnvR K F ρ (env.set i (some v)) (σ.set i (some x)) := by
  refine ⟨by rw [List.length_set, List.length_set]; exact r.len, fun j w e => ?_⟩
  by_cases hj : i = j
  · subst hj
    have hi : i < env.length := by
      by_cases hi : i < env.length
      · exact hi
      · rw [List.getElem?_eq_none (by rw [List.length_set]; omega)] at e
        cases e
    rw [List.getElem?_set_self hi] at e
    cases e
    exact ⟨x, by rw [List.getElem?_set_self (by rw [← r.len]; exact hi)], q⟩
  · rw [List.getElem?_set_ne hj] at e
    obtain ⟨y, e1, e2⟩ := r.get j w e
    exact ⟨y, by rw [List.getElem?_set_ne hj]; exact e1, e2⟩
theorem EnvR.unset {K : PySem.W.Frag} {F : Hp} {ρ : Pl} {env : Ev} {σ : L2.St} (i : Nat) (o : Option V) (r : EnvR K F ρ env σ) : EnvR K F ρ (env.set i none) (σ.set i o) := by
  refine ⟨by rw [List.length_set, List.length_set]; exact r.len, fun j w e => ?_⟩
  by_cases hj : i = j
  · subst hj
    by_cases hi : i < env.length
    · rw [List.getElem?_set_self hi] at e
      cases e
    · rw [List.getElem?_eq_none (by rw [List.length_set]; omega)] at e
      cases e
  · rw [List.getElem?_set_ne hj] at e
    obtain ⟨y, e1, e2⟩ := r.get j w e
    exact ⟨y, by rw [List.getElem?_set_ne hj]; exact e1, e2⟩
end Py

set_option Elab.async false
set_option linter.all false
set_option maxRecDepth 100000
set_option maxHeartbeats 4000000
namespace Py
open PySem PySem.Spec PyProof.Rows L2 Lw LamX
section
variable {C : Sur} {ρ : Pl} {h : Hs} {H : Hp}
theorem mut_ntbl {o : HO} (m : Liv o) : ∀ ps, o ≠ .tbl ps := fun ps z => by rw [z] at m; exact m
theorem liv_mut {o : HO} (m : Liv o) : Mut (some o) := by
  cases o <;> first | exact m | trivial
theorem Hst.at_ (S : Hst C ρ h H) {n : Nat} {c : Cell} (e : h[n]? = some c) : ∃ a, ρ.ad[n]? = some a ∧ CellR C.K (Fz ρ h H) H a c := by
  have hn : n < ρ.ad.length := by
    rw [S.len]
    exact (List.getElem?_eq_some_iff.mp e).1
  exact ⟨ρ.ad[n], List.getElem?_eq_getElem hn, S.cell n _ c (List.getElem?_eq_getElem hn) e⟩
theorem Fz_of {a : Addr} {o : HO} (e : H a = some o) (n : a ∉ live ρ.ad h ++ ρ.ex) (t : ∀ ps, o ≠ .tbl ps) : Fz ρ h H a = some o := by
  unfold Fz
  rw [if_neg n, e, if_neg]
  cases o <;> simp [isTbl]
  exact t _ rfl
theorem Hst.cell_obj (S : Hst C ρ h H) {a : Addr} (m : a ∈ live ρ.ad h) : ∃ o, H a = some o ∧ (∀ ps, o ≠ .tbl ps) ∧ Mut (some o) := by
  obtain ⟨i, c, e1, e2, e3⟩ := live_ix m
  have q := S.cell i a c e1 e2
  cases c with
  | lst xs => obtain ⟨vs, e, _⟩ := q; exact ⟨_, e, fun _ z => (by cases z), trivial⟩
  | dct kts => obtain ⟨vs, e, _⟩ := q; exact ⟨_, e, fun _ z => (by cases z), trivial⟩
  | ins c ts => obtain ⟨dx, vs, e, _⟩ := q; exact ⟨_, e, fun _ z => (by cases z), trivial⟩
  | fz t => cases e3
theorem Hst.cell_liv (S : Hst C ρ h H) {a : Addr} (m : a ∈ live ρ.ad h) : ∃ o, H a = some o ∧ Liv o := by
  obtain ⟨i, c, e1, e2, e3⟩ := live_ix m
  have q := S.cell i a c e1 e2
  cases c with
  | lst xs => obtain ⟨vs, e, _⟩ := q; exact ⟨_, e, trivial⟩
  | dct kts => obtain ⟨vs, e, _⟩ := q; exact ⟨_, e, trivial⟩
  | ins c ts => obtain ⟨dx, vs, e, _⟩ := q; exact ⟨_, e, trivial⟩
  | fz t => cases e3
theorem Hst.nlive0 (S : Hst C ρ h H) {p : Addr} (n : H p = none) : p ∉ live ρ.ad h := fun m => by
  obtain ⟨o, e, _⟩ := S.cell_obj m
  rw [n] at e
  cases e
theorem Hst.nex (S : Hst C ρ h H) {p : Addr} (n : H p = none) : p ∉ ρ.ex := fun m => by
  obtain ⟨_, xs, e, _⟩ := S.ex p m
  rw [n] at e
  cases e
theorem Hst.nlive (S : Hst C ρ h H) {p : Addr} (n : H p = none) : p ∉ live ρ.ad h ++ ρ.ex := fun m => (List.mem_append.mp m).elim (S.nlive0 n) (S.nex n)
theorem Hst.lex (S : Hst C ρ h H) {a : Addr} (m : a ∈ live ρ.ad h) : a ∉ ρ.ex := fun z => (S.ex a z).1 (live_sub m)
theorem CellR.same {K : PySem.W.Frag} {F F' H H' : Hp} {a : Addr} (s : Same F F') (e : ∀ o, H a = some o → H' a = some o) : ∀ {c : Cell}, CellR K F H a c → CellR K F' H' a c
  | .lst _, ⟨vs, e1, r⟩ => ⟨vs, e _ e1, r.same s⟩
  | .dct _, ⟨vs, e1, r⟩ => ⟨vs, e _ e1, r.same s⟩
  | .ins _ _, ⟨dx, vs, e1, e2, r⟩ => ⟨dx, vs, e _ e1, s _ _ e2, r.same s⟩
  | .fz _, r => Rep.same s r
theorem CellR.ntbl {K : PySem.W.Frag} {F H : Hp} {a : Addr} : ∀ {c : Cell}, CellR K F H a c → c.live = true → ∀ {o : HO}, H a = some o → ∀ ps, o ≠ .tbl ps
  | .lst _, ⟨_, e1, _⟩, _, o, e => fun ps z => by rw [e1] at e; cases e; cases z
  | .dct _, ⟨_, e1, _⟩, _, o, e => fun ps z => by rw [e1] at e; cases e; cases z
  | .ins _ _, ⟨_, _, e1, _, _⟩, _, o, e => fun ps z => by rw [e1] at e; cases e; cases z
  | .fz _, _, l, _, _ => by cases l
/-- new things laid that nothing changes -/
theorem Hst.grow (S : Hst C ρ h H) {H' : Hp} (s : Same H H') : Hst C ρ h H' ∧ Step ρ h H ρ h H' := by
  have sm : Same (Fz ρ h H) (Fz ρ h H') := fun b o e => by
    unfold Fz at e ⊢
    split at e
    · cases e
    · rename_i n
      rw [if_neg n]
      split at e
      · cases e
      · rename_i nt
        rw [s b o e, if_neg]
        · rw [← e]; exact nt
  exact ⟨⟨S.len, S.nd, fun a m => let ⟨o, e, t⟩ := S.has a m; ⟨o, s a o e, t⟩, fun a m => let ⟨n, xs, e, mu⟩ := S.ex a m; ⟨n, xs, s a _ e, mu⟩, fun i a c e1 e2 => (S.cell i a c e1 e2).same sm (fun o e => s a o e), S.tabs.ext s⟩, fun _ _ e => e, sm, rfl, fun a m => by obtain ⟨_, xs, e, _⟩ := S.ex a m; rw [e, s a _ e]⟩
theorem Hst.growF (S : Hst C ρ h H) {H' : Hp} (s : Same H H') {a : Addr} {o : HO} (e : H' a = some o) (na : H a = none) (t : ∀ ps, o ≠ .tbl ps) : Fz ρ h H' a = some o :=
  Fz_of e (S.nlive na) t
/-- .. the tables of code objects grown, too -/
theorem Hst.growN (S : Hst C ρ h H) {H' : Hp} (s : LamX.ExtN H H') (t : LamX.Tabs C.tb H') : Hst C ρ h H' ∧ Step ρ h H ρ h H' := by
  have sm : Same (Fz ρ h H) (Fz ρ h H') := fun b o e => by
    unfold Fz at e ⊢
    split at e
    · cases e
    · rename_i n
      rw [if_neg n]
      split at e
      · cases e
      · rename_i nt
        rw [s b o e fun ps z => nt (by rw [e, z]; rfl), if_neg]
        · rw [← e]; exact nt
  refine ⟨⟨S.len, S.nd, fun a m => let ⟨o, e, t⟩ := S.has a m; ⟨o, s a o e t, t⟩, fun a m => let ⟨n, xs, e, mu⟩ := S.ex a m; ⟨n, xs, s a _ e (mut_ntbl mu), mu⟩, fun i a c e1 e2 => ?_, t⟩, fun _ _ e => e, sm, rfl, fun a m => by obtain ⟨_, xs, e, mu⟩ := S.ex a m; rw [e, s a _ e (mut_ntbl mu)]⟩
  have q := S.cell i a c e1 e2
  cases c with
  | lst xs => obtain ⟨vs, e, r⟩ := q; exact ⟨vs, s a _ e (fun _ z => by cases z), r.same sm⟩
  | dct xs => obtain ⟨vs, e, r⟩ := q; exact ⟨vs, s a _ e (fun _ z => by cases z), r.same sm⟩
  | ins c xs => obtain ⟨dx, vs, e, e2, r⟩ := q; exact ⟨dx, vs, s a _ e (fun _ z => by cases z), sm _ _ e2, r.same sm⟩
  | fz t => exact Rep.same sm q
/-- what is no list, dict or instance is frozen -/
theorem Hst.frozen (S : Hst C ρ h H) {a : Addr} {o : HO} (e : H a = some o) (m : ¬ Mut (some o)) (t : ∀ ps, o ≠ .tbl ps) : Fz ρ h H a = some o :=
  Fz_of e (fun z => (List.mem_append.mp z).elim (fun z => by obtain ⟨u, e2, _, mu⟩ := S.cell_obj z; rw [e] at e2; cases e2; exact m mu) fun z => by obtain ⟨_, xs, e2, mu⟩ := S.ex a z; rw [e] at e2; cases e2; exact m (liv_mut mu)) t
/-- a new cell -/
theorem Hst.cellNew (S : Hst C ρ h H) {p : Addr} {o : HO} {c : Cell} (np : H p = none) (hc : c.live = true) (s : CellR C.K (Fz ρ h H) (upd H p o) p c) : Hst C ⟨ρ.ad ++ [p], ρ.ex⟩ (h ++ [c]) (upd H p o) ∧ Step ρ h H ⟨ρ.ad ++ [p], ρ.ex⟩ (h ++ [c]) (upd H p o) := by
  have lv : live (ρ.ad ++ [p]) (h ++ [c]) = live ρ.ad h ++ [p] := by
    rw [live_app S.len]
    simp [live, hc]
  have Fe : Fz ⟨ρ.ad ++ [p], ρ.ex⟩ (h ++ [c]) (upd H p o) = Fz ρ h H := by
    funext b
    unfold Fz
    rw [lv]
    by_cases hb : b = p
    · subst hb
      rw [if_pos (List.mem_append_left _ (List.mem_append_right _ (List.mem_singleton.mpr rfl))), if_neg (S.nlive np), np]
      rfl
    · have e : (b ∈ live ρ.ad h ++ [p] ++ ρ.ex) ↔ b ∈ live ρ.ad h ++ ρ.ex := by simp [hb]
      simp only [e, upd_ne hb]
  have sH : Same H (upd H p o) := fun b u e => by rw [upd_ne (ne_of_none e np)]; exact e
  have np' : p ∉ ρ.ad := fun m => by
    obtain ⟨o, e, _⟩ := S.has p m
    rw [np] at e
    cases e
  refine ⟨⟨by rw [List.length_append, List.length_append, S.len]; rfl, ?_, fun a m => ?_, fun a m => ?_, fun i a d e1 e2 => ?_, S.tabs.ext sH⟩, fun i a e => ?_, by rw [Fe]; exact Same.refl _, rfl, fun a m => ?_⟩
  · exact List.nodup_append.mpr ⟨S.nd, by simp, fun a ha b hb z => by rw [List.mem_singleton.mp hb] at z; exact np' (z ▸ ha)⟩
  · rcases List.mem_append.mp m with m | m
    · obtain ⟨u, e, t⟩ := S.has a m
      exact ⟨u, sH a u e, t⟩
    · rw [List.mem_singleton.mp m]
      exact ⟨o, upd_same, s.ntbl hc upd_same⟩
  · obtain ⟨n, xs, e, mu⟩ := S.ex a m
    refine ⟨fun z => ?_, xs, sH _ _ e, mu⟩
    rcases List.mem_append.mp z with z | z
    · exact n z
    · rw [List.mem_singleton.mp z, np] at e
      cases e
  · rw [Fe]
    by_cases hi : i < ρ.ad.length
    · rw [show (Pl.mk (ρ.ad ++ [p]) ρ.ex).ad = ρ.ad ++ [p] from rfl, List.getElem?_append_left hi] at e1
      rw [List.getElem?_append_left (by rw [← S.len]; exact hi)] at e2
      exact (S.cell i a d e1 e2).same (Same.refl _) (fun o e => sH a o e)
    · have hi2 : i = ρ.ad.length := by
        have := (List.getElem?_eq_some_iff.mp e1).1
        rw [show (Pl.mk (ρ.ad ++ [p]) ρ.ex).ad = ρ.ad ++ [p] from rfl, List.length_append, List.length_singleton] at this
        omega
      subst hi2
      rw [show (Pl.mk (ρ.ad ++ [p]) ρ.ex).ad = ρ.ad ++ [p] from rfl, List.getElem?_append_right (Nat.le_refl _), Nat.sub_self] at e1
      rw [S.len, List.getElem?_append_right (Nat.le_refl _), Nat.sub_self] at e2
      cases e1
      cases e2
      exact s
  · show (ρ.ad ++ [p])[i]? = some a
    rw [List.getElem?_append_left (List.getElem?_eq_some_iff.mp e).1]
    exact e
  · obtain ⟨n, xs, e, _⟩ := S.ex a m
    rw [e]
    exact sH _ _ e
theorem live_set {c d : Cell} (hc : c.live = d.live) : ∀ {ρ : List Addr} {h : Hs} {n : Nat}, h[n]? = some c → live ρ (h.set n d) = live ρ h
  | a :: ρ, e :: h, 0, q => by
    cases q
    simp only [List.set_cons_zero, live, hc]
  | a :: ρ, e :: h, n + 1, q => by
    have ih := live_set hc (ρ := ρ) (h := h) (n := n) q
    simp only [List.set_cons_succ, live, ih]
  | [], h, n, _ => by
    cases h.set n d <;> cases h <;> rfl
  | _ :: _, [], _, q => by cases q
/-- a cell that lives is written -/
theorem Hst.write (S : Hst C ρ h H) {n : Nat} {a : Addr} {o : HO} {c d : Cell} (ea : ρ.ad[n]? = some a) (ec : h[n]? = some c) (lc : c.live = true) (ld : d.live = true) (ot : ∀ ps, o ≠ .tbl ps) (s : CellR C.K (Fz ρ h H) (upd H a o) a d) :
    Hst C ρ (h.set n d) (upd H a o) ∧ Step ρ h H ρ (h.set n d) (upd H a o) := by
  have lv : live ρ.ad (h.set n d) = live ρ.ad h := live_set (lc.trans ld.symm) ec
  have ml : a ∈ live ρ.ad h := mem_live lc ea ec
  have Fe : Fz ρ (h.set n d) (upd H a o) = Fz ρ h H := by
    funext b
    unfold Fz
    rw [lv]
    by_cases hb : b = a
    · subst hb
      rw [if_pos (List.mem_append_left _ ml), if_pos (List.mem_append_left _ ml)]
    · rw [upd_ne hb]
  obtain ⟨oa, eo, nt, _⟩ := S.cell_obj ml
  refine ⟨⟨by rw [List.length_set]; exact S.len, S.nd, fun b m => ?_, fun b m => ?_, fun i b e e1 e2 => ?_, fun p hp => ?_⟩, fun _ _ e => e, by rw [Fe]; exact Same.refl _, rfl, fun b m => upd_ne fun z => S.lex ml (z ▸ m)⟩
  · by_cases hb : b = a
    · rw [hb]
      exact ⟨o, upd_same, ot⟩
    · rw [upd_ne hb]
      exact S.has b m
  · obtain ⟨n', xs, e, mu⟩ := S.ex b m
    have ne : b ≠ a := fun z => S.lex ml (z ▸ m)
    exact ⟨n', xs, by rw [upd_ne ne]; exact e, mu⟩
  · rw [Fe]
    by_cases hi : n = i
    · subst hi
      rw [ea] at e1
      cases e1
      rw [List.getElem?_set_self (List.getElem?_eq_some_iff.mp ec).1] at e2
      cases e2
      exact s
    · rw [List.getElem?_set_ne hi] at e2
      refine (S.cell i b e e1 e2).same (Same.refl _) fun u eu => ?_
      rw [upd_ne (fun z => hi ?_)]
      · exact eu
      · obtain ⟨h1, q1⟩ := List.getElem?_eq_some_iff.mp ea
        obtain ⟨h2, q2⟩ := List.getElem?_eq_some_iff.mp e1
        exact (List.getElem_inj S.nd).mp (q1.trans (z.symm.trans q2.symm))
  · obtain ⟨ps, h1, h2, h3⟩ := S.tabs p hp
    have ne : p.1 ≠ a := fun z => by
      rw [z, eo] at h1
      exact nt ps (Option.some.inj h1)
    refine ⟨ps, by rw [upd_ne ne]; exact h1, h2, fun pos cv hc => ?_⟩
    obtain ⟨c', e1, e2⟩ := h3 pos cv hc
    refine ⟨c', e1, ?_⟩
    rw [upd_ne (fun z => ?_)]
    · exact e2
    · obtain ⟨i, c2, q1, q2, q3⟩ := live_ix ml
      have r := S.cell i a c2 q1 q2
      rw [z] at e2
      cases c2 with
      | lst xs => obtain ⟨vs, e, _⟩ := r; rw [e] at e2; unfold CodeO at e2; cases e2
      | dct xs => obtain ⟨vs, e, _⟩ := r; rw [e] at e2; unfold CodeO at e2; cases e2
      | ins c xs => obtain ⟨dx, vs, e, _⟩ := r; rw [e] at e2; unfold CodeO at e2; cases e2
      | fz t => cases q3
theorem live_fz {t : T} {a b : Addr} : ∀ {ρ : List Addr} {h : Hs} {n : Nat}, b ∈ live ρ (h.set n (.fz t)) → b ∈ live ρ h
  | e :: ρ, c :: h, 0, m => by
    simp only [List.set_cons_zero] at m
    have m2 : b ∈ live ρ h := by
      unfold live at m
      rw [if_neg (by simp [Cell.live])] at m
      exact m
    unfold live
    split
    · exact List.mem_cons_of_mem _ m2
    · exact m2
  | e :: ρ, c :: h, n + 1, m => by
    simp only [List.set_cons_succ] at m
    unfold live at m ⊢
    split at m
    · rename_i hc
      rw [if_pos hc]
      rcases List.mem_cons.mp m with z | m
      · rw [z]; exact List.mem_cons_self
      · exact List.mem_cons_of_mem _ (live_fz (a := a) m)
    · rename_i hc
      rw [if_neg hc]
      exact live_fz (a := a) m
  | [], h, n, m => by cases hh : h.set n (.fz t) <;> rw [hh] at m <;> cases m
  | _ :: _, [], _, m => by cases m
theorem live_take {b : Addr} : ∀ {ρ : List Addr} {h : Hs} {k : Nat}, b ∈ live (ρ.take k) (h.take k) → b ∈ live ρ h
  | e :: ρ, c :: h, 0, m => by simp [live] at m
  | e :: ρ, c :: h, k + 1, m => by
    simp only [List.take_succ_cons] at m
    unfold live at m ⊢
    split at m
    · rename_i hc
      rw [if_pos hc]
      rcases List.mem_cons.mp m with z | m
      · rw [z]; exact List.mem_cons_self
      · exact List.mem_cons_of_mem _ (live_take m)
    · rename_i hc
      rw [if_neg hc]
      exact live_take m
  | [], _, _, m => by simp [live] at m
  | _ :: _, [], _, m => by simp [live] at m
theorem Fz_more {ρ' : Pl} {h' : Hs} (hl : ∀ b, b ∈ live ρ'.ad h' → b ∈ live ρ.ad h) (hx : ∀ b, b ∈ ρ'.ex → b ∈ ρ.ex) : Same (Fz ρ h H) (Fz ρ' h' H) := fun b o e => by
  unfold Fz at e ⊢
  split at e
  · cases e
  · rename_i n
    rw [if_neg (fun z => n ((List.mem_append.mp z).elim (fun q => List.mem_append_left _ (hl b q)) fun q => List.mem_append_right _ (hx b q)))]
    exact e
/-- the tree that a cell is -/
def Cell.tree : Cell → T
  | .lst xs => .lst xs
  | .dct kts => .dct kts
  | .ins c fs => .obj c fs
  | .fz t => t
/-- a cell is frozen where it stands -/
theorem Hst.freeze (S : Hst C ρ h H) {n : Nat} {c : Cell} (ec : h[n]? = some c) : Hst C ρ (h.set n (.fz c.tree)) H ∧ Step ρ h H ρ (h.set n (.fz c.tree)) H ∧ ∃ a, ρ.ad[n]? = some a ∧ Rep C.K (Fz ρ (h.set n (.fz c.tree)) H) c.tree (.ref a) := by
  obtain ⟨a, ea, q⟩ := S.at_ ec
  have sm : Same (Fz ρ h H) (Fz ρ (h.set n (.fz c.tree)) H) := Fz_more (fun b m => live_fz (a := a) m) fun _ z => z
  have nl : a ∉ live ρ.ad (h.set n (.fz c.tree)) ++ ρ.ex := fun m => (List.mem_append.mp m).elim (fun m => by
    obtain ⟨i, d, e1, e2, e3⟩ := live_ix m
    obtain ⟨h1, q1⟩ := List.getElem?_eq_some_iff.mp ea
    obtain ⟨h2, q2⟩ := List.getElem?_eq_some_iff.mp e1
    have e : n = i := (List.getElem_inj S.nd).mp (q1.trans q2.symm)
    subst e
    rw [List.getElem?_set_self (List.getElem?_eq_some_iff.mp ec).1] at e2
    cases e2
    cases e3) fun m => (S.ex a m).1 (List.mem_of_getElem? ea)
  have r : Rep C.K (Fz ρ (h.set n (.fz c.tree)) H) c.tree (.ref a) := by
    cases c with
    | lst xs =>
      obtain ⟨vs, e, r⟩ := q
      exact .lst (Fz_of e nl fun _ z => by cases z) (r.same sm)
    | dct kts =>
      obtain ⟨vs, e, r⟩ := q
      exact .dct (.inl (Fz_of e nl fun _ z => by cases z)) (r.same sm)
    | ins c ts =>
      obtain ⟨dx, vs, e, e2, r⟩ := q
      exact .obj (Fz_of e nl fun _ z => by cases z) (sm _ _ e2) (r.same sm)
    | fz t => exact Rep.same sm q
  refine ⟨⟨by rw [List.length_set]; exact S.len, S.nd, S.has, S.ex, fun i b d e1 e2 => ?_, S.tabs⟩, ⟨fun _ _ e => e, sm, rfl, fun _ _ => rfl⟩, a, ea, r⟩
  by_cases hi : n = i
  · subst hi
    rw [ea] at e1
    cases e1
    rw [List.getElem?_set_self (List.getElem?_eq_some_iff.mp ec).1] at e2
    cases e2
    exact r
  · rw [List.getElem?_set_ne hi] at e2
    exact (S.cell i b d e1 e2).same sm fun _ e => e
/-- the cells from the k-th on are given up -/
theorem Hst.cut (S : Hst C ρ h H) (k : Nat) : Hst C ⟨ρ.ad.take k, ρ.ex⟩ (h.take k) H ∧ Same (Fz ρ h H) (Fz ⟨ρ.ad.take k, ρ.ex⟩ (h.take k) H) := by
  have sm : Same (Fz ρ h H) (Fz ⟨ρ.ad.take k, ρ.ex⟩ (h.take k) H) := Fz_more (fun b m => live_take m) fun _ z => z
  refine ⟨⟨by rw [List.length_take, List.length_take, S.len], S.nd.sublist (List.take_sublist k ρ.ad), fun a m => S.has a (List.mem_of_mem_take m), fun a m => ⟨fun z => (S.ex a m).1 (List.mem_of_mem_take z), (S.ex a m).2⟩, fun i a c e1 e2 => ?_, S.tabs⟩, sm⟩
  rw [List.getElem?_take] at e1 e2
  split at e1
  · rename_i hi
    rw [if_pos hi] at e2
    exact (S.cell i a c e1 e2).same sm fun _ e => e
  · cases e1
/-- a list that is being built -/
theorem Hst.build (S : Hst C ρ h H) {D : Addr} {xs : List V} (n : H D = none) : Hst C ⟨ρ.ad, D :: ρ.ex⟩ h (upd H D (.lst xs)) ∧ Same (Fz ρ h H) (Fz ⟨ρ.ad, D :: ρ.ex⟩ h (upd H D (.lst xs))) := by
  have sm : Same (Fz ρ h H) (Fz ⟨ρ.ad, D :: ρ.ex⟩ h (upd H D (.lst xs))) := fun b o e => by
    have hb : b ≠ D := ne_of_none (Fz.le _ _ e) n
    unfold Fz at e ⊢
    split at e
    · cases e
    · rename_i m
      rw [if_neg (fun z => m ?_), upd_ne hb]
      · exact e
      · simp only [List.mem_append, List.mem_cons] at z ⊢
        rcases z with z | z | z
        · exact .inl z
        · exact (hb z).elim
        · exact .inr z
  have sH : Same H (upd H D (.lst xs)) := fun b u e => by rw [upd_ne (ne_of_none e n)]; exact e
  refine ⟨⟨S.len, S.nd, fun a m => let ⟨o, e, t⟩ := S.has a m; ⟨o, sH a o e, t⟩, fun a m => ?_, fun i a c e1 e2 => (S.cell i a c e1 e2).same sm fun o e => sH a o e, S.tabs.ext sH⟩, sm⟩
  rcases List.mem_cons.mp m with e | m
  · rw [e]
    refine ⟨fun z => ?_, .lst xs, upd_same, trivial⟩
    obtain ⟨o, e, _⟩ := S.has D z
    rw [n] at e
    cases e
  · obtain ⟨q, ys, e, mu⟩ := S.ex a m
    exact ⟨q, ys, sH _ _ e, mu⟩
/-- .. goes on -/
theorem Hst.built (S : Hst C ρ h H) {D : Addr} {xs : List V} (m : D ∈ ρ.ex) : Hst C ρ h (upd H D (.lst xs)) ∧ Fz ρ h (upd H D (.lst xs)) = Fz ρ h H := by
  have Fe : Fz ρ h (upd H D (.lst xs)) = Fz ρ h H := by
    funext b
    unfold Fz
    by_cases hb : b = D
    · rw [hb, if_pos (List.mem_append_right _ m), if_pos (List.mem_append_right _ m)]
    · rw [upd_ne hb]
  obtain ⟨nD, ys, eD, mD⟩ := S.ex D m
  refine ⟨⟨S.len, S.nd, fun a ma => ?_, fun a ma => ?_, fun i a c e1 e2 => ?_, fun p hp => ?_⟩, Fe⟩
  · by_cases hb : a = D
    · rw [hb]; exact ⟨_, upd_same, fun _ z => by cases z⟩
    · rw [upd_ne hb]; exact S.has a ma
  · by_cases hb : a = D
    · rw [hb]; exact ⟨nD, .lst xs, upd_same, trivial⟩
    · rw [upd_ne hb]; exact S.ex a ma
  · rw [Fe]
    have hb : a ≠ D := fun z => nD (z ▸ List.mem_of_getElem? e1)
    exact (S.cell i a c e1 e2).same (Same.refl _) fun o e => by rw [upd_ne hb]; exact e
  · obtain ⟨ps, h1, h2, h3⟩ := S.tabs p hp
    have ne : p.1 ≠ D := fun z => by
      rw [z, eD] at h1
      cases h1
      exact mD
    refine ⟨ps, by rw [upd_ne ne]; exact h1, h2, fun pos cv hc => ?_⟩
    obtain ⟨c', e1, e2⟩ := h3 pos cv hc
    refine ⟨c', e1, ?_⟩
    rw [upd_ne (fun z => ?_)]
    · exact e2
    · rw [z, eD] at e2
      unfold CodeO at e2
      cases e2
      exact mD
/-- .. is done: it is frozen now -/
theorem Hst.bdone {D : Addr} {ex : List Addr} {ad : List Addr} (S : Hst C ⟨ad, D :: ex⟩ h H) (n : D ∉ ex) {ts : List T} {xs : List V} (e : H D = some (.lst xs)) (r : Reps C.K (Fz ⟨ad, D :: ex⟩ h H) ts xs) :
    Hst C ⟨ad, ex⟩ h H ∧ Same (Fz ⟨ad, D :: ex⟩ h H) (Fz ⟨ad, ex⟩ h H) ∧ Rep C.K (Fz ⟨ad, ex⟩ h H) (.lst ts) (.ref D) := by
  have sm : Same (Fz ⟨ad, D :: ex⟩ h H) (Fz ⟨ad, ex⟩ h H) := Fz_more (fun _ z => z) fun _ z => List.mem_cons_of_mem _ z
  have nD := (S.ex D List.mem_cons_self).1
  have S' : Hst C ⟨ad, ex⟩ h H := ⟨S.len, S.nd, S.has, fun a m => S.ex a (List.mem_cons_of_mem _ m), fun i a c e1 e2 => (S.cell i a c e1 e2).same sm fun _ e => e, S.tabs⟩
  refine ⟨S', sm, .lst (Fz_of e (fun m => ?_) fun _ z => by cases z) (r.same sm)⟩
  rcases List.mem_append.mp m with m | m
  · exact nD (live_sub m)
  · exact n m
/-- .. or it is a cell -/
theorem Hst.bcell {D : Addr} {ex : List Addr} {ad : List Addr} (S : Hst C ⟨ad, D :: ex⟩ h H) (n : D ∉ ex) {ts : List T} {xs : List V} (e : H D = some (.lst xs)) (r : Reps C.K (Fz ⟨ad, D :: ex⟩ h H) ts xs) :
    Hst C ⟨ad ++ [D], ex⟩ (h ++ [.lst ts]) H ∧ Fz ⟨ad ++ [D], ex⟩ (h ++ [.lst ts]) H = Fz ⟨ad, D :: ex⟩ h H := by
  have lv : live (ad ++ [D]) (h ++ [.lst ts]) = live ad h ++ [D] := by
    rw [live_app S.len]
    simp [live, Cell.live]
  have Fe : Fz ⟨ad ++ [D], ex⟩ (h ++ [.lst ts]) H = Fz ⟨ad, D :: ex⟩ h H := by
    funext b
    unfold Fz
    have q : (b ∈ live (ad ++ [D]) (h ++ [.lst ts]) ++ ex) ↔ b ∈ live ad h ++ (D :: ex) := by rw [lv]; simp
    simp only [q]
  have nD := (S.ex D List.mem_cons_self).1
  refine ⟨⟨by show (ad ++ [D]).length = _; rw [List.length_append, List.length_append, show ad.length = h.length from S.len]; rfl, ?_, fun a m => ?_, fun a m => ?_, fun i a c e1 e2 => ?_, S.tabs⟩, Fe⟩
  · exact List.nodup_append.mpr ⟨S.nd, by simp, fun a ha b hb z => by rw [List.mem_singleton.mp hb] at z; exact nD (z ▸ ha)⟩
  · rcases List.mem_append.mp m with m | m
    · exact S.has a m
    · rw [List.mem_singleton.mp m]; exact ⟨_, e, fun _ z => by cases z⟩
  · obtain ⟨q, ys, e1, mu⟩ := S.ex a (List.mem_cons_of_mem _ m)
    refine ⟨fun z => ?_, ys, e1, mu⟩
    rcases List.mem_append.mp z with z | z
    · exact q z
    · rw [List.mem_singleton.mp z] at m
      exact n m
  · rw [Fe]
    have e1 : (ad ++ [D])[i]? = some a := e1
    have le : ad.length = h.length := S.len
    by_cases hi : i < ad.length
    · rw [List.getElem?_append_left hi] at e1
      rw [List.getElem?_append_left (by omega)] at e2
      exact S.cell i a c e1 e2
    · have hi2 : i = ad.length := by
        have := (List.getElem?_eq_some_iff.mp e1).1
        rw [List.length_append, List.length_singleton] at this
        omega
      subst hi2
      rw [List.getElem?_append_right (Nat.le_refl _), Nat.sub_self] at e1
      rw [le, List.getElem?_append_right (Nat.le_refl _), Nat.sub_self] at e2
      cases e1
      cases e2
      exact ⟨xs, e, r⟩
end
end Py

set_option Elab.async false
set_option linter.all false
set_option maxRecDepth 100000
set_option maxHeartbeats 4000000
namespace Py
open PySem PySem.Spec PyProof.Rows L2 Lw LamX
/-- what a reckoning brings -/
inductive Res (α : Type) where
  | ok (a : α) (h : Hs) | err (c : Str) (v : T) (h : Hs) | stuck
def Res.bind {α β : Type} (r : Res α) (f : α → Hs → Res β) : Res β :=
  match r with
  | .ok a h => f a h
  | .err c v h => .err c v h
  | .stuck => .stuck
abbrev M (α : Type) := Hs → Res α
theorem Res.bind_assoc {α β γ : Type} (r : Res α) (f : α → Hs → Res β) (g : β → Hs → Res γ) : (r.bind f).bind g = r.bind fun a h => (f a h).bind g := by
  cases r <;> rfl
/-- what is wanted of a reckoning's end, over the state at its beginning -/
def Fin {α β : Type} (C : Sur) (W : XK) (Rl : Hp → Pl → α → β → Prop) (ρ : Pl) (h : Hs) (H : Hp) (r : Res α) (Q : β → Hp → Prop) : Prop :=
  match r with
  | .ok a h' => ∀ (ρ' : Pl) (H' : Hp) (b : β), Hst C ρ' h' H' → Step ρ h H ρ' h' H' → Rl (Fz ρ' h' H') ρ' a b → Q b H'
  | .err c t h' => ∀ (ρ' : Pl) (H' : Hp) (d : Addr) (x : V), Hst C ρ' h' H' → Step ρ h H ρ' h' H' → H' d = some (.xd [("value", x)]) → Rep C.K (Fz ρ' h' H') t x → W (.ref (He.ga C.K c)) (some d) H'
  | .stuck => False
section
variable {C : Sur} {W : XK} {α β α' β' : Type} {Rl : Hp → Pl → α → β → Prop} {Rl' : Hp → Pl → α' → β' → Prop} {ρ ρ1 : Pl} {h h1 : Hs} {H H1 : Hp}
theorem Fin.rebase {r : Res α} {Q : β → Hp → Prop} (f : Fin C W Rl ρ h H r Q) (s : Step ρ h H ρ1 h1 H1) : Fin C W Rl ρ1 h1 H1 r Q := by
  cases r with
  | ok a h' => exact fun ρ' H' b S st q => f ρ' H' b S (s.trans st) q
  | err c t h' => exact fun ρ' H' d x S st e q => f ρ' H' d x S (s.trans st) e q
  | stuck => exact f
theorem Fin.bind {r : Res α} {f : α → Hs → Res α'} {Q : β' → Hp → Prop} {Q1 : β → Hp → Prop} (hr : Fin C W Rl' ρ h H (r.bind f) Q)
    (k : ∀ (v : α) (h1 : Hs) (ρ1 : Pl) (H1 : Hp) (b : β), Hst C ρ1 h1 H1 → Step ρ h H ρ1 h1 H1 → Rl (Fz ρ1 h1 H1) ρ1 v b → Fin C W Rl' ρ1 h1 H1 (f v h1) Q → Q1 b H1) : Fin C W Rl ρ h H r Q1 := by
  cases r with
  | ok a h' => exact fun ρ' H' b S st q => k a h' ρ' H' b S st q (hr.rebase st)
  | err c t h' => exact hr
  | stuck => exact hr
theorem Fin.mono {r : Res α} {Q Q1 : β → Hp → Prop} (f : Fin C W Rl ρ h H r Q) (k : ∀ b H, Q b H → Q1 b H) : Fin C W Rl ρ h H r Q1 := by
  cases r with
  | ok a h' => exact fun ρ' H' b S st q => k _ _ (f ρ' H' b S st q)
  | err c t h' => exact f
  | stuck => exact f
theorem Fin.ok {a : α} {b : β} {Q : β → Hp → Prop} (f : Fin C W Rl ρ h H (.ok a h) Q) (S : Hst C ρ h H) (r : Rl (Fz ρ h H) ρ a b) : Q b H := f ρ H b S Step.refl r
end
abbrev sur (X : Cx) (tb : List (Addr × Str)) : Sur := ⟨X.K, tb⟩
/-- a wish at given slots -/
abbrev at_ (W : WX) (σ : L2.St) : XK := fun c d H => W c d σ H
section
variable (X : Cx) (tb : List (Addr × Str)) (W : WX)
def TI (g : Ev → M RV) : TE := fun σ H Q => ∃ ρ env h, Hst (sur X tb) ρ h H ∧ EnvR X.K (Fz ρ h H) ρ env σ ∧ Fin (sur X tb) (at_ W σ) (RepV X.K) ρ h H (g env h) Q
def TAI (g : Ev → M (List RV)) : TA := fun σ H Q => ∃ ρ env h, Hst (sur X tb) ρ h H ∧ EnvR X.K (Fz ρ h H) ρ env σ ∧ Fin (sur X tb) (at_ W σ) (RepVs X.K) ρ h H (g env h) Q
def TTI (g : Ev → M Bool) : TT := fun σ H Q => ∃ ρ env h, Hst (sur X tb) ρ h H ∧ EnvR X.K (Fz ρ h H) ρ env σ ∧ Fin (sur X tb) (at_ W σ) (fun _ _ a b => a = b) ρ h H (g env h) Q
/-- what is wanted of two values' operation -/
def Run2 (f : Value → Value → Sem Value) (g : RV → RV → M RV) : Prop := ∀ (pins : List (Addr × Obj)) (s : Shared) (σ : L2.St) (H : Hp) (x y : V) (u w : Value) (ρ : Pl) (h : Hs) (v1 v2 : RV) (Q : VK), Inv X pins σ H s → RelV x u → RelV y w →
  Hst (sur X tb) ρ h H → RepV X.K (Fz ρ h H) ρ v1 x → RepV X.K (Fz ρ h H) ρ v2 y → Fin (sur X tb) (at_ W σ) (RepV X.K) ρ h H (g v1 v2 h) Q → wpAny (model X.prog X.w) X.A (f u w) (EP X pins σ Q) X.xe s
def Run1 (f : Value → Sem Value) (g : RV → M RV) : Prop := ∀ (pins : List (Addr × Obj)) (s : Shared) (σ : L2.St) (H : Hp) (x : V) (u : Value) (ρ : Pl) (h : Hs) (v1 : RV) (Q : VK), Inv X pins σ H s → RelV x u →
  Hst (sur X tb) ρ h H → RepV X.K (Fz ρ h H) ρ v1 x → Fin (sur X tb) (at_ W σ) (RepV X.K) ρ h H (g v1 h) Q → wpAny (model X.prog X.w) X.A (f u) (EP X pins σ Q) X.xe s
def RunL (f : List Value → Sem Value) (g : List RV → M RV) : Prop := ∀ (pins : List (Addr × Obj)) (s : Shared) (σ : L2.St) (H : Hp) (xs : List V) (us : List Value) (ρ : Pl) (h : Hs) (vs : List RV) (Q : VK), Inv X pins σ H s → Vals xs us →
  Hst (sur X tb) ρ h H → RepVs X.K (Fz ρ h H) ρ vs xs → Fin (sur X tb) (at_ W σ) (RepV X.K) ρ h H (g vs h) Q → wpAny (model X.prog X.w) X.A (f us) (EP X pins σ Q) X.xe s
end
/-! ### the machine's small parts -/
def gVar (i : Nat) : Ev → M RV := fun env h => match env[i]? with
  | some (some v) => .ok v h
  | _ => .stuck
def gC (t : T) : Ev → M RV := fun _ h => .ok (.t t) h
def g2 (f : RV → RV → M RV) (a b : Ev → M RV) : Ev → M RV := fun env h => (a env h).bind fun v h1 => (b env h1).bind fun w h2 => f v w h2
def g1 (f : RV → M RV) (a : Ev → M RV) : Ev → M RV := fun env h => (a env h).bind fun v h1 => f v h1
def gL (f : List RV → M RV) (a : Ev → M (List RV)) : Ev → M RV := fun env h => (a env h).bind fun v h1 => f v h1
def gNil : Ev → M (List RV) := fun _ h => .ok [] h
def gCons (a : Ev → M RV) (as : Ev → M (List RV)) : Ev → M (List RV) := fun env h => (a env h).bind fun v h1 => (as env h1).bind fun vs h2 => .ok (v :: vs) h2
def look (h : Hs) : RV → Option T
  | .t t => some t
  | .r n => (h[n]?).map Cell.tree
def truth : T → Option Bool
  | .non => some false
  | .bl b => some b
  | .int i => some (i != 0)
  | .str y => if y.length ≤ sizeLine then some ((y.length : Int) != 0) else none
  | .tup xs => some (!xs.isEmpty)
  | .lst xs => some (!xs.isEmpty)
  | .scr xs => some (!xs.isEmpty)
  | _ => none
def tru (v : RV) : M Bool := fun h => match (look h v).bind truth with
  | some b => .ok b h
  | none => .stuck
def gTru (a : Ev → M RV) : Ev → M Bool := fun env h => (a env h).bind fun v h1 => tru v h1
def bAnd (a b : Ev → M Bool) : Ev → M Bool := fun env h => (a env h).bind fun c h1 => if c = true then b env h1 else .ok false h1
def bOr (a b : Ev → M Bool) : Ev → M Bool := fun env h => (a env h).bind fun c h1 => if c = true then .ok true h1 else b env h1
def bNot (a : Ev → M Bool) : Ev → M Bool := fun env h => (a env h).bind fun c h1 => .ok (!c) h1
def gB (a : Ev → M Bool) : Ev → M RV := fun env h => (a env h).bind fun c h1 => .ok (.t (.bl c)) h1
/-- a value that must be a bool -/
def asB : RV → M Bool
  | .t (.bl b) => fun h => .ok b h
  | _ => fun _ => .stuck
def gAsB (a : Ev → M RV) : Ev → M Bool := fun env h => (a env h).bind asB
def gIf (c : Ev → M Bool) (a b : Ev → M RV) : Ev → M RV := fun env h => (c env h).bind fun k h1 => if k = true then a env h1 else b env h1
/-- a op b op' c -/
def gChain (f f' : RV → RV → M RV) (a b c : Ev → M RV) : Ev → M RV := fun env h => (a env h).bind fun v h1 => (b env h1).bind fun w h2 => (f v w h2).bind fun r h3 => (asB r h3).bind fun k h4 => if k = true then (c env h4).bind fun u h5 => f' w u h5 else .ok (.t (.bl false)) h4
section
variable {X : Cx} {tb : List (Addr × Str)} {W : WX}
/-- full readings -/
theorem RepV.look {C : Sur} {ρ : Pl} {h : Hs} {H : Hp} (S : Hst C ρ h H) {v : RV} {x : V} {t : T} (r : RepV C.K (Fz ρ h H) ρ v x) (e : look h v = some t) : Rep C.K H t x := by
  cases v with
  | t u =>
    cases e
    exact Rep.same Fz.le r
  | r n =>
    obtain ⟨a, ea, rfl⟩ := r
    simp only [Py.look, Option.map_eq_some_iff] at e
    obtain ⟨c, ec, rfl⟩ := e
    have q := S.cell n a c ea ec
    cases c with
    | lst xs =>
      obtain ⟨vs, e, r⟩ := q
      exact .lst e (r.same Fz.le)
    | dct kts =>
      obtain ⟨vs, e, r⟩ := q
      exact .dct (.inl e) (r.same Fz.le)
    | ins c ts =>
      obtain ⟨dx, vs, e, e2, r⟩ := q
      exact .obj e (Fz.le _ _ e2) (r.same Fz.le)
    | fz t => exact Rep.same Fz.le q
theorem pe_var_ {i : Nat} {x : Str} {pos : Pos} (hN : X.N[i]? = some x) (hv : Vis X.env.scope x) (hd : (x == ("__debug__" : Str)) = false) (hcd : (x == ("__classdict__" : Str)) = false) : PE X (.Name x pos) (TI X tb W (gVar i)) := by
  refine ⟨fun pins s σ H Q I hq => (pe_var hN hv hd hcd).run pins s σ H Q I ?_⟩
  obtain ⟨ρ, env, h, S, E, F⟩ := hq
  unfold gVar at F
  split at F
  · rename_i v e
    obtain ⟨y, e1, r⟩ := E.get i v e
    exact ⟨y, e1, F.ok S r⟩
  · exact F.elim
/-- a thing that reads as a constant -/
theorem pe_const_ {e : Expr} {x : V} {t : T} (he : PE X e (tC x)) (r : ∀ F, Rep X.K F t x) : PE X e (TI X tb W (gC t)) := by
  refine ⟨fun pins s σ H Q I hq => he.run pins s σ H Q I ?_⟩
  obtain ⟨ρ, env, h, S, E, F⟩ := hq
  exact F.ok (b := x) S (r _)
theorem pe_op_ {a b : Expr} {op : Operator} {pos : Pos} {f : RV → RV → M RV} {ga gb : Ev → M RV} (ho : Run2 X tb W (binaryOp op) f) (ha : PE X a (TI X tb W ga)) (hb : PE X b (TI X tb W gb)) : PE X (.BinOp a op b pos) (TI X tb W (g2 f ga gb)) := by
  refine ⟨fun pins s σ H Q I hq => ?_⟩
  obtain ⟨ρ, env, h, S, E, F⟩ := hq
  refine wpAny_BinOp (binT ha hb (R := fun x y H2 => ∃ ρ h v1 v2, Hst (sur X tb) ρ h H2 ∧ RepV X.K (Fz ρ h H2) ρ v1 x ∧ RepV X.K (Fz ρ h H2) ρ v2 y ∧ Fin (sur X tb) (at_ W σ) (RepV X.K) ρ h H2 (f v1 v2 h) Q) I
    ⟨ρ, env, h, S, E, F.bind fun v h1 ρ1 H1 x S1 st1 r1 F1 => ⟨ρ1, env, h1, S1, E.step st1, F1.bind fun w h2 ρ2 H2 y S2 st2 r2 F2 => ⟨ρ2, h2, v, w, S2, r1.step st2, r2, F2⟩⟩⟩ fun v u s2 x y H2 I2 rx ry ⟨ρ, h, v1, v2, S, r1, r2, F⟩ => ?_)
  exact ho pins s2 σ H2 x y v u ρ h v1 v2 Q I2 rx ry S r1 r2 F
theorem pe_un_ {a : Expr} {op : UnaryOp} {pos : Pos} {f : RV → M RV} {ga : Ev → M RV} (ho : Run1 X tb W (unaryOp op) f) (ha : PE X a (TI X tb W ga)) : PE X (.UnaryOp op a pos) (TI X tb W (g1 f ga)) := by
  refine ⟨fun pins s σ H Q I hq => ?_⟩
  obtain ⟨ρ, env, h, S, E, F⟩ := hq
  refine UnaryOp_ (thn (ha.run pins s σ H (fun x H2 => ∃ ρ h v1, Hst (sur X tb) ρ h H2 ∧ RepV X.K (Fz ρ h H2) ρ v1 x ∧ Fin (sur X tb) (at_ W σ) (RepV X.K) ρ h H2 (f v1 h) Q) I
    ⟨ρ, env, h, S, E, F.bind fun v h1 ρ1 H1 x S1 st1 r1 F1 => ⟨ρ1, h1, v, S1, r1, F1⟩⟩) fun v s1 ⟨x, H1, I1, r1, ρ, h, v1, S, q, F⟩ => ?_)
  exact ho pins s1 σ H1 x v ρ h v1 Q I1 r1 S q F
theorem pe_cmp_ {a b : Expr} {op : CmpOp} {pos : Pos} {f : RV → RV → M RV} {ga gb : Ev → M RV} (ho : Run2 X tb W (compareOp op) f) (ha : PE X a (TI X tb W ga)) (hb : PE X b (TI X tb W gb)) (hm : behindInMarks op b = false) : PE X (.Compare a [op] [b] pos) (TI X tb W (g2 f ga gb)) := by
  refine ⟨fun pins s σ H Q I hq => ?_⟩
  obtain ⟨ρ, env, h, S, E, F⟩ := hq
  refine wpAny_Compare1 (binT ha hb (R := fun x y H2 => ∃ ρ h v1 v2, Hst (sur X tb) ρ h H2 ∧ RepV X.K (Fz ρ h H2) ρ v1 x ∧ RepV X.K (Fz ρ h H2) ρ v2 y ∧ Fin (sur X tb) (at_ W σ) (RepV X.K) ρ h H2 (f v1 v2 h) Q) I
    ⟨ρ, env, h, S, E, F.bind fun v h1 ρ1 H1 x S1 st1 r1 F1 => ⟨ρ1, env, h1, S1, E.step st1, F1.bind fun w h2 ρ2 H2 y S2 st2 r2 F2 => ⟨ρ2, h2, v, w, S2, r1.step st2, r2, F2⟩⟩⟩ fun v u s2 x y H2 I2 rx ry ⟨ρ, h, v1, v2, S, r1, r2, F⟩ => ?_) hm
  exact ho pins s2 σ H2 x y v u ρ h v1 v2 Q I2 rx ry S r1 r2 F
theorem pt_cmp_ {a b : Expr} {op : CmpOp} {pos : Pos} {f : RV → RV → M RV} {ga gb : Ev → M RV} (ho : Run2 X tb W (compareOp op) f) (ha : PE X a (TI X tb W ga)) (hb : PE X b (TI X tb W gb)) (hm : behindInMarks op b = false) : PT X (.Compare a [op] [b] pos) (TTI X tb W (gAsB (g2 f ga gb))) := by
  refine ⟨fun pins s σ H Q I hq => ?_⟩
  obtain ⟨ρ, env, h, S, E, F⟩ := hq
  unfold gAsB g2 at F
  simp only [Res.bind_assoc] at F
  refine wpAny_isTrue_Compare1 (binT ha hb (R := fun x y H2 => ∃ ρ h v1 v2, Hst (sur X tb) ρ h H2 ∧ RepV X.K (Fz ρ h H2) ρ v1 x ∧ RepV X.K (Fz ρ h H2) ρ v2 y ∧ Fin (sur X tb) (at_ W σ) (fun _ _ a b => a = b) ρ h H2 ((f v1 v2 h).bind asB) Q) (f := fun v u => compareOp op v u) (Q := fun c s3 => wpAny (model X.prog X.w) X.A (truthy c) (TP X pins σ Q) X.xe s3) I
    ⟨ρ, env, h, S, E, F.bind fun v h1 ρ1 H1 x S1 st1 r1 F1 => ⟨ρ1, env, h1, S1, E.step st1, F1.bind fun w h2 ρ2 H2 y S2 st2 r2 F2 => ⟨ρ2, h2, v, w, S2, r1.step st2, r2, F2⟩⟩⟩ fun v u s2 x y H2 I2 rx ry ⟨ρ, h, v1, v2, S, r1, r2, F⟩ => ?_) hm
  refine thn (ho pins s2 σ H2 x y v u ρ h v1 v2 (fun z H3 => ∃ k, z = .bl k ∧ Q k H3) I2 rx ry S r1 r2 (F.bind fun r h3 ρ3 H3 z S3 st3 r3 F3 => ?_)) fun c s3 ⟨z, H3, I3, r3, k, e, q⟩ => ?_
  · cases r with
    | r n => exact F3.elim
    | t t =>
      cases t with
      | bl k =>
        cases r3
        exact ⟨k, rfl, F3.ok S3 rfl⟩
      | _ => exact F3.elim
  · subst e
    cases r3
    exact wpAny_truthy_bool ⟨H3, I3, q⟩
theorem asB_fin {C : Sur} {A : XK} {K : PySem.W.Frag} {ρ : Pl} {h : Hs} {H : Hp} {r : Res RV} {Q : Bool → Hp → Prop} (F : Fin C A (fun _ _ a b => a = b) ρ h H (r.bind asB) Q) : Fin C A (RepV K) ρ h H r fun z H3 => ∃ k, z = .bl k ∧ Q k H3 :=
  F.bind fun r h3 ρ3 H3 z S3 st3 r3 F3 => by
    cases r with
    | r n => exact F3.elim
    | t t =>
      cases t with
      | bl k =>
        cases r3
        exact ⟨k, rfl, F3.ok S3 rfl⟩
      | _ => exact F3.elim
theorem pt_of_pe {e : Expr} {g : Ev → M RV} (h : PE X e (TI X tb W g)) (he : ∀ whole, isTrue e X.env whole = (do let v ← whole; standAt e.pos; holding [v] (truthy v))) : PT X e (TTI X tb W (gTru g)) := by
  refine ⟨fun pins s σ H Q I hq => (pt_truth h he).run pins s σ H Q I ?_⟩
  obtain ⟨ρ, env, h, S, E, F⟩ := hq
  refine ⟨ρ, env, h, S, E, F.bind fun v h1 ρ1 H1 x S1 st1 r1 F1 => ?_⟩
  unfold tru at F1
  split at F1
  · rename_i b e
    rw [Option.bind_eq_some_iff] at e
    obtain ⟨t, e1, e2⟩ := e
    refine ⟨b, ?_, F1.ok S1 rfl⟩
    have q : Rep X.K H1 t x := r1.look S1 e1
    cases q with
    | non => cases e2; rfl
    | bl b => cases e2; rfl
    | int i => cases e2; rfl
    | str y =>
      simp only [truth] at e2
      split at e2
      · rename_i hl
        cases e2
        exact ⟨hl, rfl⟩
      · cases e2
    | tup hs rs =>
      cases e2
      have l := rs.len
      exact .inr (.inl ⟨_, hs, by cases rs <;> rfl⟩)
    | lst hs rs =>
      cases e2
      exact .inl ⟨_, SqL.of hs, by cases rs <;> rfl⟩
    | scr hs rs =>
      cases e2
      exact .inl ⟨_, hs, by cases rs <;> rfl⟩
    | _ => cases e2
  · exact F1.elim
theorem pw_and1_ {a : Expr} {pos : Pos} {g : Ev → M Bool} (ha : PT X a (TTI X tb W g)) : PW X (.BoolOp .And [a] pos) (TTI X tb W g) := pw_and1 ha
theorem pw_or1_ {a : Expr} {pos : Pos} {g : Ev → M Bool} (ha : PT X a (TTI X tb W g)) : PW X (.BoolOp .Or [a] pos) (TTI X tb W g) := pw_or1 ha
theorem pw_and_ {a b : Expr} {rest : List Expr} {pos : Pos} {ga gb : Ev → M Bool} (ha : PT X a (TTI X tb W ga)) (hb : PW X (.BoolOp .And (b :: rest) pos) (TTI X tb W gb)) : PW X (.BoolOp .And (a :: b :: rest) pos) (TTI X tb W (bAnd ga gb)) := by
  refine ⟨fun wh pins s σ H Q I hq => (pw_and ha hb).run wh pins s σ H Q I ?_⟩
  obtain ⟨ρ, env, h, S, E, F⟩ := hq
  refine ⟨ρ, env, h, S, E, F.bind fun c h1 ρ1 H1 x S1 st1 r1 F1 => ?_⟩
  cases r1
  cases c with
  | true => exact ⟨ρ1, env, h1, S1, E.step st1, F1⟩
  | false => exact F1.ok S1 rfl
theorem pw_or_ {a b : Expr} {rest : List Expr} {pos : Pos} {ga gb : Ev → M Bool} (ha : PT X a (TTI X tb W ga)) (hb : PW X (.BoolOp .Or (b :: rest) pos) (TTI X tb W gb)) : PW X (.BoolOp .Or (a :: b :: rest) pos) (TTI X tb W (bOr ga gb)) := by
  refine ⟨fun wh pins s σ H Q I hq => (pw_or ha hb).run wh pins s σ H Q I ?_⟩
  obtain ⟨ρ, env, h, S, E, F⟩ := hq
  refine ⟨ρ, env, h, S, E, F.bind fun c h1 ρ1 H1 x S1 st1 r1 F1 => ?_⟩
  cases r1
  cases c with
  | false => exact ⟨ρ1, env, h1, S1, E.step st1, F1⟩
  | true => exact F1.ok S1 rfl
theorem pt_not_ {a : Expr} {pos : Pos} {g : Ev → M Bool} (ha : PT X a (TTI X tb W g)) : PT X (.UnaryOp .Not a pos) (TTI X tb W (bNot g)) := by
  refine ⟨fun pins s σ H Q I hq => (pt_not ha).run pins s σ H Q I ?_⟩
  obtain ⟨ρ, env, h, S, E, F⟩ := hq
  exact ⟨ρ, env, h, S, E, F.bind fun c h1 ρ1 H1 x S1 st1 r1 F1 => by
    cases r1
    exact F1.ok S1 rfl⟩
theorem pe_ife_ {c a b : Expr} {pos : Pos} {gc : Ev → M Bool} {ga gb : Ev → M RV} (hc : PT X c (TTI X tb W gc)) (ha : PE X a (TI X tb W ga)) (hb : PE X b (TI X tb W gb)) : PE X (.IfExp c a b pos) (TI X tb W (gIf gc ga gb)) := by
  refine ⟨fun pins s σ H Q I hq => (pe_ifExp hc ha hb).run pins s σ H Q I ?_⟩
  obtain ⟨ρ, env, h, S, E, F⟩ := hq
  refine ⟨ρ, env, h, S, E, F.bind fun c h1 ρ1 H1 x S1 st1 r1 F1 => ?_⟩
  cases r1
  cases c with
  | true => exact ⟨ρ1, env, h1, S1, E.step st1, F1⟩
  | false => exact ⟨ρ1, env, h1, S1, E.step st1, F1⟩
/-- and, or, not as values -/
def vAnd (a b : Ev → M RV) : Ev → M RV := fun env h => (a env h).bind fun v h1 => (asB v h1).bind fun c h2 => if c = true then b env h2 else .ok (.t (.bl false)) h2
def vOr (a b : Ev → M RV) : Ev → M RV := fun env h => (a env h).bind fun v h1 => (asB v h1).bind fun c h2 => if c = true then .ok (.t (.bl true)) h2 else b env h2
def vNot (a : Ev → M RV) : Ev → M RV := fun env h => (a env h).bind fun v h1 => (asB v h1).bind fun c h2 => .ok (.t (.bl (!c))) h2
theorem asB_val {C : Sur} {A : XK} {K : PySem.W.Frag} {β : Type} {Rl : Hp → Pl → RV → β → Prop} {ρ : Pl} {h : Hs} {H : Hp} {v : RV} {x : V} {f : Bool → Hs → Res RV} {Q : β → Hp → Prop} (r : RepV K (Fz ρ h H) ρ v x) (F : Fin C A Rl ρ h H ((asB v h).bind f) Q) : ∃ c, x = .bl c ∧ Fin C A Rl ρ h H (f c h) Q := by
  cases v with
  | r n => exact F.elim
  | t t =>
    cases t with
    | bl k =>
      cases r
      exact ⟨k, rfl, F⟩
    | _ => exact F.elim
theorem pe_and_ {a b : Expr} {rest : List Expr} {pos : Pos} {ga gb : Ev → M RV} (ha : PE X a (TI X tb W ga)) (hb : PE X (.BoolOp .And (b :: rest) pos) (TI X tb W gb)) : PE X (.BoolOp .And (a :: b :: rest) pos) (TI X tb W (vAnd ga gb)) := by
  refine ⟨fun pins s σ H Q I hq => (pe_and ha hb).run pins s σ H Q I ?_⟩
  obtain ⟨ρ, env, h, S, E, F⟩ := hq
  refine ⟨ρ, env, h, S, E, F.bind fun v h1 ρ1 H1 x S1 st1 r1 F1 => ?_⟩
  obtain ⟨c, rfl, F2⟩ := asB_val r1 F1
  refine ⟨c, rfl, ?_⟩
  cases c with
  | true => exact ⟨ρ1, env, h1, S1, E.step st1, F2⟩
  | false => exact F2.ok S1 (.bl false)
theorem pe_or_ {a b : Expr} {rest : List Expr} {pos : Pos} {ga gb : Ev → M RV} (ha : PE X a (TI X tb W ga)) (hb : PE X (.BoolOp .Or (b :: rest) pos) (TI X tb W gb)) : PE X (.BoolOp .Or (a :: b :: rest) pos) (TI X tb W (vOr ga gb)) := by
  refine ⟨fun pins s σ H Q I hq => (pe_or ha hb).run pins s σ H Q I ?_⟩
  obtain ⟨ρ, env, h, S, E, F⟩ := hq
  refine ⟨ρ, env, h, S, E, F.bind fun v h1 ρ1 H1 x S1 st1 r1 F1 => ?_⟩
  obtain ⟨c, rfl, F2⟩ := asB_val r1 F1
  refine ⟨c, rfl, ?_⟩
  cases c with
  | false => exact ⟨ρ1, env, h1, S1, E.step st1, F2⟩
  | true => exact F2.ok S1 (.bl true)
theorem pe_not_ {a : Expr} {pos : Pos} {ga : Ev → M RV} (ha : PE X a (TI X tb W ga)) : PE X (.UnaryOp .Not a pos) (TI X tb W (vNot ga)) := by
  refine ⟨fun pins s σ H Q I hq => (pe_not ha).run pins s σ H Q I ?_⟩
  obtain ⟨ρ, env, h, S, E, F⟩ := hq
  refine ⟨ρ, env, h, S, E, F.bind fun v h1 ρ1 H1 x S1 st1 r1 F1 => ?_⟩
  obtain ⟨c, rfl, F2⟩ := asB_val r1 F1
  exact ⟨c, rfl, F2.ok S1 (.bl _)⟩
/-! ### argument lists, displays -/
theorem pa_nil_ : PA X [] (TAI X tb W gNil) := by
  refine ⟨fun pos pins s σ H Q I hq => pa_nil.run pos pins s σ H Q I ?_⟩
  obtain ⟨ρ, env, h, S, E, F⟩ := hq
  exact F.ok S .nil
theorem pa_cons_ {e : Expr} {es : List Expr} {ga : Ev → M RV} {gs : Ev → M (List RV)} (ha : PE X e (TI X tb W ga)) (hr : PA X es (TAI X tb W gs)) (hs : starEach (e :: es) X.env = (false, eval e X.env) :: starEach es X.env) : PA X (e :: es) (TAI X tb W (gCons ga gs)) := by
  refine ⟨fun pos pins s σ H Q I hq => (pa_cons ha hr hs).run pos pins s σ H Q I ?_⟩
  obtain ⟨ρ, env, h, S, E, F⟩ := hq
  exact ⟨ρ, env, h, S, E, F.bind fun v h1 ρ1 H1 x S1 st1 r1 F1 => ⟨ρ1, env, h1, S1, E.step st1, F1.bind fun vs h2 ρ2 H2 xs S2 st2 r2 F2 => F2.ok S2 (.cons (r1.step st2) r2)⟩⟩
/-- a value becomes a tree: a cell is frozen where it stands -/
def toT : RV → M T
  | .t t => fun h => .ok t h
  | .r n => fun h => match h[n]? with
    | some c => .ok c.tree (h.set n (.fz c.tree))
    | none => .stuck
def toTs : List RV → M (List T)
  | [] => fun h => .ok [] h
  | v :: vs => fun h => (toT v h).bind fun t h1 => (toTs vs h1).bind fun ts h2 => .ok (t :: ts) h2
theorem toT_fin {C : Sur} {A : XK} {β : Type} {α' : Type} {Rl : Hp → Pl → α' → β → Prop} {ρ : Pl} {h : Hs} {H : Hp} {v : RV} {x : V} {f : T → Hs → Res α'} {Q : β → Hp → Prop} (S : Hst C ρ h H) (r : RepV C.K (Fz ρ h H) ρ v x) (F : Fin C A Rl ρ h H ((toT v h).bind f) Q) :
    ∃ t h1, Hst C ρ h1 H ∧ Step ρ h H ρ h1 H ∧ Rep C.K (Fz ρ h1 H) t x ∧ Fin C A Rl ρ h1 H (f t h1) Q := by
  cases v with
  | t t => exact ⟨t, h, S, Step.refl, r, F⟩
  | r n =>
    obtain ⟨a, ea, rfl⟩ := r
    unfold toT at F
    simp only at F
    split at F
    · rename_i c ec
      obtain ⟨S1, st, a', ea', r'⟩ := S.freeze ec
      rw [ea] at ea'
      cases ea'
      exact ⟨_, _, S1, st, r', F.rebase st⟩
    · exact F.elim
theorem toT_finE {C : Sur} {ρ : Pl} {h h1 : Hs} {H : Hp} {v : RV} {x : V} {t : T} (S : Hst C ρ h H) (r : RepV C.K (Fz ρ h H) ρ v x) (e : toT v h = .ok t h1) : Hst C ρ h1 H ∧ Step ρ h H ρ h1 H ∧ Rep C.K (Fz ρ h1 H) t x := by
  cases v with
  | t t => cases e; exact ⟨S, Step.refl, r⟩
  | r n =>
    obtain ⟨a, ea, rfl⟩ := r
    unfold toT at e
    simp only at e
    split at e
    · rename_i c ec
      cases e
      obtain ⟨S1, st, a', ea', r'⟩ := S.freeze ec
      rw [ea] at ea'
      cases ea'
      exact ⟨S1, st, r'⟩
    · cases e
theorem toTs_fin {C : Sur} {A : XK} {β : Type} {α' : Type} {Rl : Hp → Pl → α' → β → Prop} {ρ : Pl} {H : Hp} : ∀ {vs : List RV} {xs : List V} {h : Hs} {f : List T → Hs → Res α'} {Q : β → Hp → Prop}, Hst C ρ h H → RepVs C.K (Fz ρ h H) ρ vs xs → Fin C A Rl ρ h H ((toTs vs h).bind f) Q →
    ∃ ts h1, Hst C ρ h1 H ∧ Step ρ h H ρ h1 H ∧ Reps C.K (Fz ρ h1 H) ts xs ∧ Fin C A Rl ρ h1 H (f ts h1) Q
  | [], _, h, f, Q, S, .nil, F => ⟨[], h, S, Step.refl, .nil, F⟩
  | v :: vs, _, h, f, Q, S, .cons r rs, F => by
    unfold toTs at F
    rw [Res.bind_assoc] at F
    obtain ⟨t, h1, S1, st1, r1, F1⟩ := toT_fin S r F
    rw [Res.bind_assoc] at F1
    obtain ⟨ts, h2, S2, st2, r2, F2⟩ := toTs_fin S1 (rs.step st1) F1
    exact ⟨t :: ts, h2, S2, st1.trans st2, .cons (r1.same st2.same) r2, F2⟩
/-- a new tree: a list or a dict as a cell where hp says so -/
def fresh (hp : Bool) (t : T) : M RV := fun h => match t with
  | .lst xs => if xs.length ≤ sizeLine then (if hp = true then .ok (.r h.length) (h ++ [.lst xs]) else .ok (.t t) h) else .stuck
  | .tup xs => if xs.length ≤ sizeLine then .ok (.t t) h else .stuck
  | .dct kts => if hp = true then .ok (.r h.length) (h ++ [.dct kts]) else .ok (.t t) h
  | t => .ok (.t t) h
theorem same_new {H : Hp} {p : Addr} {o : HO} (n : H p = none) : Same H (upd H p o) := fun b u e => by
  rw [upd_ne (ne_of_none e n)]
  exact e
theorem fresh_lst {C : Sur} {A : XK} {ρ : Pl} {h : Hs} {H : Hp} {hp : Bool} {ts : List T} {xs : List V} {Q : VK} (S : Hst C ρ h H) (r : Reps C.K (Fz ρ h H) ts xs) (F : Fin C A (RepV C.K) ρ h H (fresh hp (.lst ts) h) Q) : xs.length ≤ sizeLine ∧ ∀ p, H p = none → Q (.ref p) (upd H p (.lst xs)) := by
  unfold fresh at F
  simp only at F
  split at F
  · rename_i hl
    refine ⟨by rw [← r.len]; exact hl, fun p np => ?_⟩
    split at F
    · obtain ⟨S1, st⟩ := S.cellNew (c := .lst ts) np rfl ⟨xs, upd_same, r⟩
      exact F _ _ _ S1 st ⟨p, by rw [← S.len, List.getElem?_append_right (Nat.le_refl _), Nat.sub_self]; rfl, rfl⟩
    · obtain ⟨S1, st⟩ := S.grow (same_new (o := .lst xs) np)
      exact F _ _ _ S1 st (.lst (S.growF (same_new np) upd_same np fun _ z => by cases z) (r.same st.same))
  · exact F.elim
theorem fresh_tup {C : Sur} {A : XK} {ρ : Pl} {h : Hs} {H : Hp} {hp : Bool} {ts : List T} {xs : List V} {Q : VK} (S : Hst C ρ h H) (r : Reps C.K (Fz ρ h H) ts xs) (F : Fin C A (RepV C.K) ρ h H (fresh hp (.tup ts) h) Q) : xs.length ≤ sizeLine ∧ ∀ p, H p = none → Q (.ref p) (upd H p (.tup xs)) := by
  unfold fresh at F
  simp only at F
  split at F
  · rename_i hl
    refine ⟨by rw [← r.len]; exact hl, fun p np => ?_⟩
    obtain ⟨S1, st⟩ := S.grow (same_new (o := .tup xs) np)
    exact F _ _ _ S1 st (.tup (SqT.of (S.growF (same_new np) upd_same np fun _ z => by cases z)) (r.same st.same))
  · exact F.elim
def gTup (a : Ev → M (List RV)) : Ev → M RV := fun env h => (a env h).bind fun vs h1 => (toTs vs h1).bind fun ts h2 => fresh false (.tup ts) h2
def gLst (hp : Bool) (a : Ev → M (List RV)) : Ev → M RV := fun env h => (a env h).bind fun vs h1 => (toTs vs h1).bind fun ts h2 => fresh hp (.lst ts) h2
theorem pe_tup_ {es : List Expr} {k : Nat} {pos : Pos} {gs : Ev → M (List RV)} (ha : PA X es (TAI X tb W gs)) : PE X (.Tuple es k pos) (TI X tb W (gTup gs)) := by
  refine ⟨fun pins s σ H Q I hq => (pe_tup ha).run pins s σ H Q I ?_⟩
  obtain ⟨ρ, env, h, S, E, F⟩ := hq
  refine ⟨ρ, env, h, S, E, F.bind fun vs h1 ρ1 H1 xs S1 st1 r1 F1 => ?_⟩
  obtain ⟨ts, h2, S2, st2, r2, F2⟩ := toTs_fin S1 r1 F1
  exact fresh_tup S2 r2 F2
theorem pe_lst_ {es : List Expr} {hp : Bool} {pos : Pos} {gs : Ev → M (List RV)} (ha : PA X es (TAI X tb W gs)) : PE X (.List es pos) (TI X tb W (gLst hp gs)) := by
  refine ⟨fun pins s σ H Q I hq => (pe_lst ha).run pins s σ H Q I ?_⟩
  obtain ⟨ρ, env, h, S, E, F⟩ := hq
  refine ⟨ρ, env, h, S, E, F.bind fun vs h1 ρ1 H1 xs S1 st1 r1 F1 => ?_⟩
  obtain ⟨ts, h2, S2, st2, r2, F2⟩ := toTs_fin S1 r1 F1
  exact fresh_lst S2 r2 F2
end
end Py

set_option Elab.async false
set_option linter.all false
set_option maxRecDepth 100000
set_option maxHeartbeats 4000000
namespace Py
open PySem PySem.Spec PyProof.Rows L2 Lw LamX
def T.flat : T → Bool
  | .non => true | .bl _ => true | .int _ => true | .str _ => true
  | _ => false
def T.v : T → V
  | .bl b => .bl b | .int i => .int i | .str x => .str x
  | _ => .non
theorem Rep.v {K : PySem.W.Frag} {F : Hp} {t : T} {x : V} (r : Rep K F t x) (f : t.flat = true) : x = t.v := by
  cases r with
  | non => rfl
  | bl b => rfl
  | int i => rfl
  | str y => rfl
  | _ => cases f
theorem Rep.of_flat {K : PySem.W.Frag} {F : Hp} {t : T} (f : t.flat = true) : Rep K F t t.v := by
  cases t with
  | non => exact .non
  | bl b => exact .bl b
  | int i => exact .int i
  | str y => exact .str y
  | _ => cases f
def eqF : T → T → Bool
  | .non, .non => true
  | .bl a, .bl b => a == b
  | .bl a, .int b => (if a then 1 else 0) == b
  | .int a, .bl b => a == (if b then 1 else 0)
  | .int a, .int b => a == b
  | .str a, .str b => a == b
  | _, _ => false
theorem flat_V {t : T} (f : t.flat = true) : flatV t.v = true := by
  cases t <;> first | rfl | cases f
theorem eqV_F {t u : T} (f : t.flat = true) (g : u.flat = true) : eqV t.v u.v = eqF t u := by
  cases t <;> first | (cases f; done) | (cases u <;> first | rfl | (cases g; done))
mutual
def T.toD : T → Option PyData
  | .non => some .none
  | .bl b => some (.bool b)
  | .int i => some (.int i)
  | .str x => some (.str x)
  | .tup xs => (T.toDs xs).map .tuple
  | .lst xs => (T.toDs xs).map .list
  | .scr xs => (T.toDs xs).map .list
  | .dct _ => none
  | .obj _ _ => none
  | .err _ _ => none
  | .fn _ => none
  | .cl _ => none
def T.toDs : List T → Option (List PyData)
  | [] => some []
  | t :: ts => match T.toD t, T.toDs ts with
    | some d, some ds => some (d :: ds)
    | _, _ => none
end
section
variable {K : PySem.W.Frag} {H : Hp}
mutual
theorem Rep.dp : ∀ {t : T} {x : V} {d : PyData}, Rep K H t x → t.toD = some d → Dp K H x d
  | _, _, _, .non, e => by cases e; exact .non
  | _, _, _, .bl b, e => by cases e; exact .bl b
  | _, _, _, .int i, e => by cases e; exact .int i
  | _, _, _, .str y, e => by cases e; exact .str y
  | _, _, _, .tup (ts := ts) h r, e => by
    simp only [T.toD, Option.map_eq_some_iff] at e
    obtain ⟨ds, e1, rfl⟩ := e
    exact .tup h (Reps.dp r e1)
  | _, _, _, .lst (ts := ts) h r, e => by
    simp only [T.toD, Option.map_eq_some_iff] at e
    obtain ⟨ds, e1, rfl⟩ := e
    exact .lst (SqL.of h) (Reps.dp r e1)
  | _, _, _, .scr (ts := ts) h r, e => by
    simp only [T.toD, Option.map_eq_some_iff] at e
    obtain ⟨ds, e1, rfl⟩ := e
    exact .lst h (Reps.dp r e1)
  | _, _, _, .dct _ _, e => by simp [T.toD] at e
  | _, _, _, .obj _ _ _, e => by simp [T.toD] at e
  | _, _, _, .err _ _, e => by simp [T.toD] at e
  | _, _, _, .fn, e => by simp [T.toD] at e
  | _, _, _, .clT, e => by simp [T.toD] at e
  | _, _, _, .clO, e => by simp [T.toD] at e
theorem Reps.dp : ∀ {ts : List T} {xs : List V} {ds : List PyData}, Reps K H ts xs → T.toDs ts = some ds → DpAll K H xs ds
  | _, _, _, .nil, e => by simp only [T.toDs, Option.some.injEq] at e; subst e; exact .nil
  | _, _, _, .cons (t := t) (ts := ts) h r, e => by
    simp only [T.toDs] at e
    split at e
    · rename_i d ds e1 e2
      cases e
      exact .cons (Rep.dp h e1) (Reps.dp r e2)
    · cases e
end
end
/-- == of trees -/
def eqT (t u : T) : Option Bool :=
  if (t.flat && u.flat) = true then some (eqF t u) else match t.toD, u.toD with
    | some d, some e => if (SeqAt.shaped d && SeqAt.shaped e) = true then some (PyData.eqv d e) else none
    | _, _ => none
def mulOk (i j : Int) : Bool := (decide (-(2 ^ 64) < i) && decide (i < 2 ^ 64)) || (decide (-(2 ^ 64) < j) && decide (j < 2 ^ 64))
def powOk (i j : Int) : Bool := decide (0 ≤ j) && decide ((Builtin.Int.intBits i : Int) * j ≤ 2 ^ 27)
/-- a op b of trees -/
def binOpT (op : Operator) (t u : T) : Option T :=
  match op, t, u with
  | .Add, .int i, .int j => some (.int (i + j))
  | .Add, .str x, .str y => if x.length + y.length ≤ sizeLine then some (.str (x ++ y)) else none
  | .Add, .tup xs, .tup ys => if xs.length + ys.length ≤ sizeLine then some (.tup (xs ++ ys)) else none
  | .Add, .lst xs, .lst ys => if xs.length + ys.length ≤ sizeLine then some (.lst (xs ++ ys)) else none
  | .Sub, .int i, .int j => some (.int (i - j))
  | .Mult, .int i, .int j => if mulOk i j = true then some (.int (i * j)) else none
  | .FloorDiv, .int i, .int j => if 0 < j ∧ j < 1073741824 then some (.int (i / j)) else none
  | .Mod, .int i, .int j => if 0 < j then some (.int (i % j)) else none
  | .Pow, .int i, .int j => if powOk i j = true then some (.int (i ^ j.toNat)) else none
  | _, _, _ => none
def gBin (hp : Bool) (op : Operator) (v w : RV) : M RV := fun h => match look h v, look h w with
  | some t, some u => match binOpT op t u with
    | some r => fresh hp r h
    | none => .stuck
  | _, _ => .stuck
section
variable {X : Cx} {tb : List (Addr × Str)} {W : WX}
theorem Run2.ofOp {f : Value → Value → Sem Value} {g : RV → RV → M RV} (r : L2.St → Hp → V → V → VK → Prop)
    (ho : ∀ (σ : L2.St), OpR X f fun x y H Q => r σ H x y Q)
    (k : ∀ (σ : L2.St) (H : Hp) (x y : V) (ρ : Pl) (h : Hs) (v1 v2 : RV) (Q : VK), Hst (sur X tb) ρ h H → RepV X.K (Fz ρ h H) ρ v1 x → RepV X.K (Fz ρ h H) ρ v2 y → Fin (sur X tb) (at_ W σ) (RepV X.K) ρ h H (g v1 v2 h) Q → r σ H x y Q) : Run2 X tb W f g :=
  fun pins s σ H x y u w ρ h v1 v2 Q I rx ry S r1 r2 F => ho σ pins s σ H x y u w Q I rx ry (k σ H x y ρ h v1 v2 Q S r1 r2 F)
theorem Run2.cases {f : Value → Value → Sem Value} {g : RV → RV → M RV}
    (k : ∀ (σ : L2.St) (H : Hp) (x y : V) (ρ : Pl) (h : Hs) (v1 v2 : RV) (Q : VK), Hst (sur X tb) ρ h H → RepV X.K (Fz ρ h H) ρ v1 x → RepV X.K (Fz ρ h H) ρ v2 y → Fin (sur X tb) (at_ W σ) (RepV X.K) ρ h H (g v1 v2 h) Q → ∃ r : R2, OpR X f r ∧ r x y H Q) : Run2 X tb W f g :=
  fun pins s σ H x y u w ρ h v1 v2 Q I rx ry S r1 r2 F => by
    obtain ⟨r, ho, q⟩ := k σ H x y ρ h v1 v2 Q S r1 r2 F
    exact ho pins s σ H x y u w Q I rx ry q
/-- ends of a reckoning that brings a flat value -/
theorem Fin.flat {C : Sur} {A : XK} {ρ : Pl} {h : Hs} {H : Hp} {t : T} {Q : VK} (S : Hst C ρ h H) (f : t.flat = true) (F : Fin C A (RepV C.K) ρ h H (.ok (.t t) h) Q) : Q t.v H := F.ok (b := t.v) S (Rep.of_flat f)
theorem Fin.rep {C : Sur} {A : XK} {ρ : Pl} {h : Hs} {H : Hp} {t : T} {x : V} {Q : VK} (S : Hst C ρ h H) (r : Rep C.K (Fz ρ h H) t x) (F : Fin C A (RepV C.K) ρ h H (.ok (.t t) h) Q) : Q x H := F.ok (b := x) S r
/-- the frozen reading of a tree that a value is, full and frozen at once -/
theorem look_reps {C : Sur} {ρ : Pl} {h : Hs} {H : Hp} (S : Hst C ρ h H) {v : RV} {x : V} {ts : List T} (r : RepV C.K (Fz ρ h H) ρ v x) (e : look h v = some (.lst ts)) : ∃ a xs, x = .ref a ∧ H a = some (.lst xs) ∧ Reps C.K (Fz ρ h H) ts xs := by
  cases v with
  | t u =>
    cases e
    cases r with
    | lst h1 r => exact ⟨_, _, rfl, Fz.le _ _ h1, r⟩
  | r n =>
    obtain ⟨a, ea, rfl⟩ := r
    simp only [look, Option.map_eq_some_iff] at e
    obtain ⟨c, ec, e⟩ := e
    have q := S.cell n a c ea ec
    cases c with
    | lst xs =>
      cases e
      obtain ⟨vs, e, r⟩ := q
      exact ⟨a, vs, rfl, e, r⟩
    | dct kts => cases e
    | ins c ts => cases e
    | fz t =>
      cases (show t = T.lst ts from e)
      cases (show Rep C.K (Fz ρ h H) (.lst ts) (.ref a) from q) with
      | lst h1 r => exact ⟨_, _, rfl, Fz.le _ _ h1, r⟩
theorem look_repsT {C : Sur} {ρ : Pl} {h : Hs} {H : Hp} (S : Hst C ρ h H) {v : RV} {x : V} {ts : List T} (r : RepV C.K (Fz ρ h H) ρ v x) (e : look h v = some (.tup ts)) : ∃ a xs, x = .ref a ∧ SqT C.K (Fz ρ h H) a xs ∧ Reps C.K (Fz ρ h H) ts xs := by
  cases v with
  | t u =>
    cases e
    cases r with
    | tup h1 r => exact ⟨_, _, rfl, h1, r⟩
  | r n =>
    obtain ⟨a, ea, rfl⟩ := r
    simp only [look, Option.map_eq_some_iff] at e
    obtain ⟨c, ec, e⟩ := e
    have q := S.cell n a c ea ec
    cases c with
    | lst xs => cases e
    | dct kts => cases e
    | ins c ts => cases e
    | fz t =>
      cases (show t = T.tup ts from e)
      cases (show Rep C.K (Fz ρ h H) (.tup ts) (.ref a) from q) with
      | tup h1 r => exact ⟨_, _, rfl, h1, r⟩
theorem mulOk_ok {i j : Int} (h : mulOk i j = true) : CMul i j := by
  unfold mulOk at h
  simp only [Bool.or_eq_true, Bool.and_eq_true, decide_eq_true_eq] at h
  exact h
theorem run_bin (hp : Bool) (op : Operator) : Run2 X tb W (binaryOp op) (gBin hp op) := by
  refine Run2.cases fun σ H x y ρ h v1 v2 Q S r1 r2 F => ?_
  unfold gBin at F
  split at F
  case h_2 => exact F.elim
  case h_1 t u e1 e2 =>
    have q1 := r1.look S e1
    have q2 := r2.look S e2
    split at F
    case h_2 => exact F.elim
    case h_1 r e3 =>
      unfold binOpT at e3
      split at e3
      case h_1 i j =>
        cases e3; cases q1; cases q2
        exact ⟨_, op_add, i, j, rfl, rfl, F.flat (t := .int _) S rfl⟩
      case h_2 a b =>
        split at e3
        · rename_i hl
          cases e3; cases q1; cases q2
          exact ⟨_, op_add_str, a, b, rfl, rfl, hl, F.flat (t := .str _) S rfl⟩
        · cases e3
      case h_3 xs ys =>
        split at e3
        · rename_i hl
          cases e3
          obtain ⟨a, vs, rfl, hs, rs⟩ := look_repsT S r1 e1
          obtain ⟨b, ws, rfl, hs2, rs2⟩ := look_repsT S r2 e2
          have l1 := rs.len
          have l2 := rs2.len
          refine ⟨_, op_catA, a, b, vs, ws, rfl, rfl, sqT_same Fz.le hs, sqT_same Fz.le hs2, by omega, fun e => ?_, fun ne e => ?_, fun n1 n2 => ?_⟩
          · subst e
            cases rs
            rw [show fresh hp (T.tup ([] ++ ys)) h = if ([] ++ ys).length ≤ sizeLine then .ok (.t (.tup ([] ++ ys))) h else .stuck from rfl, if_pos (by simpa using hl)] at F
            exact F.rep S (.tup hs2 rs2)
          · subst e
            cases rs2
            rw [show fresh hp (T.tup (xs ++ [])) h = if (xs ++ []).length ≤ sizeLine then .ok (.t (.tup (xs ++ []))) h else .stuck from rfl, if_pos (by simpa using hl)] at F
            refine F.rep S (.tup hs ?_)
            rw [List.append_nil]
            exact rs
          · exact (fresh_tup S (rs.app rs2) F).2
        · cases e3
      case h_4 xs ys =>
        split at e3
        · rename_i hl
          cases e3
          obtain ⟨a, vs, rfl, hs, rs⟩ := look_reps S r1 e1
          obtain ⟨b, ws, rfl, hs2, rs2⟩ := look_reps S r2 e2
          have l1 := rs.len
          have l2 := rs2.len
          exact ⟨_, op_cat, a, b, vs, ws, rfl, rfl, hs, hs2, by omega, (fresh_lst S (rs.app rs2) F).2⟩
        · cases e3
      case h_5 i j =>
        cases e3; cases q1; cases q2
        exact ⟨_, op_sub, i, j, rfl, rfl, F.flat (t := .int _) S rfl⟩
      case h_6 i j =>
        split at e3
        · rename_i hc
          cases e3; cases q1; cases q2
          exact ⟨_, op_mul, i, j, rfl, rfl, mulOk_ok hc, F.flat (t := .int _) S rfl⟩
        · cases e3
      case h_7 i j =>
        split at e3
        · rename_i hc
          cases e3; cases q1; cases q2
          exact ⟨_, op_fdiv, i, j, rfl, rfl, hc, F.flat (t := .int _) S rfl⟩
        · cases e3
      case h_8 i j =>
        split at e3
        · rename_i hc
          cases e3; cases q1; cases q2
          exact ⟨_, op_mod, i, j, rfl, rfl, hc, F.flat (t := .int _) S rfl⟩
        · cases e3
      case h_9 i j =>
        split at e3
        · rename_i hc
          cases e3; cases q1; cases q2
          unfold powOk at hc
          simp only [Bool.and_eq_true, decide_eq_true_eq] at hc
          exact ⟨_, op_powB, i, j, rfl, rfl, hc, F.flat (t := .int _) S rfl⟩
        · cases e3
      case h_10 => cases e3
/-! ### comparisons -/
def gEq (neg : Bool) (v w : RV) : M RV := fun h => match look h v, look h w with
  | some t, some u => match eqT t u with
    | some b => .ok (.t (.bl (if neg = true then !b else b))) h
    | none => .stuck
  | _, _ => .stuck
theorem eqT_ok {K : PySem.W.Frag} {H : Hp} {t u : T} {x y : V} {b : Bool} (r1 : Rep K H t x) (r2 : Rep K H u y) (e : eqT t u = some b) : (scal x y = true ∧ b = decide (x = y)) ∨ ∃ d f, Dp K H x d ∧ Dp K H y f ∧ SeqAt.shaped d = true ∧ SeqAt.shaped f = true ∧ b = PyData.eqv d f := by
  unfold eqT at e
  split at e
  · rename_i hf
    simp only [Bool.and_eq_true] at hf
    obtain ⟨f1, f2⟩ := hf
    cases e
    cases r1 with
    | non =>
      cases r2 with
      | non => exact .inl ⟨rfl, rfl⟩
      | bl b => exact .inl ⟨rfl, rfl⟩
      | int b => exact .inl ⟨rfl, rfl⟩
      | str b => exact .inl ⟨rfl, rfl⟩
      | _ => cases f2
    | bl b =>
      cases r2 with
      | non => exact .inl ⟨rfl, rfl⟩
      | bl c => exact .inl ⟨rfl, by cases b <;> cases c <;> rfl⟩
      | int c => exact .inr ⟨_, _, .bl b, .int c, rfl, rfl, rfl⟩
      | str c => exact .inl ⟨rfl, rfl⟩
      | _ => cases f2
    | int b =>
      cases r2 with
      | non => exact .inl ⟨rfl, rfl⟩
      | bl c => exact .inr ⟨_, _, .int b, .bl c, rfl, rfl, rfl⟩
      | int c => exact .inl ⟨rfl, by rw [dec_int]; rfl⟩
      | str c => exact .inl ⟨rfl, rfl⟩
      | _ => cases f2
    | str b =>
      cases r2 with
      | non => exact .inl ⟨rfl, rfl⟩
      | bl c => exact .inl ⟨rfl, rfl⟩
      | int c => exact .inl ⟨rfl, rfl⟩
      | str c => exact .inl ⟨rfl, by rw [dec_str]; rfl⟩
      | _ => cases f2
    | _ => cases f1
  · split at e
    · rename_i d f e1 e2
      split at e
      · rename_i hs
        simp only [Bool.and_eq_true] at hs
        cases e
        exact .inr ⟨d, f, r1.dp e1, r2.dp e2, hs.1, hs.2, rfl⟩
      · cases e
    · cases e
theorem run_eq (hu : X.A.units + 64 < cLine) : Run2 X tb W (compareOp .Eq) (gEq false) := by
  refine Run2.cases fun σ H x y ρ h v1 v2 Q S r1 r2 F => ?_
  unfold gEq at F
  split at F
  case h_2 => exact F.elim
  case h_1 t u e1 e2 =>
    split at F
    case h_2 => exact F.elim
    case h_1 b e3 =>
      have q := F.flat (t := .bl b) S rfl
      rcases eqT_ok (r1.look S e1) (r2.look S e2) e3 with ⟨h1, rfl⟩ | ⟨d, f, h1, h2, h3, h4, rfl⟩
      · exact ⟨_, op_eq, h1, q⟩
      · exact ⟨_, op_eqD hu, d, f, h1, h2, h3, h4, q⟩
theorem run_ne (hu : X.A.units + 64 < cLine) : Run2 X tb W (compareOp .NotEq) (gEq true) := by
  refine Run2.cases fun σ H x y ρ h v1 v2 Q S r1 r2 F => ?_
  unfold gEq at F
  split at F
  case h_2 => exact F.elim
  case h_1 t u e1 e2 =>
    split at F
    case h_2 => exact F.elim
    case h_1 b e3 =>
      have q := F.flat (t := .bl (!b)) S rfl
      rcases eqT_ok (r1.look S e1) (r2.look S e2) e3 with ⟨h1, rfl⟩ | ⟨d, f, h1, h2, h3, h4, rfl⟩
      · exact ⟨_, op_ne, h1, q⟩
      · exact ⟨_, op_neD hu, d, f, h1, h2, h3, h4, q⟩
/-- order of ints and of texts -/
def ordT (op : CmpOp) (t u : T) : Option Bool :=
  match op, t, u with
  | .Lt, .int i, .int j => some (decide (i < j))
  | .LtE, .int i, .int j => some (decide (i ≤ j))
  | .Gt, .int i, .int j => some (decide (j < i))
  | .GtE, .int i, .int j => some (decide (j ≤ i))
  | _, _, _ => none
def gOrd (op : CmpOp) (v w : RV) : M RV := fun h => match look h v, look h w with
  | some t, some u => match ordT op t u with
    | some b => .ok (.t (.bl b)) h
    | none => .stuck
  | _, _ => .stuck
theorem run_ord (op : CmpOp) : Run2 X tb W (compareOp op) (gOrd op) := by
  refine Run2.cases fun σ H x y ρ h v1 v2 Q S r1 r2 F => ?_
  unfold gOrd at F
  split at F
  case h_2 => exact F.elim
  case h_1 t u e1 e2 =>
    have q1 := r1.look S e1
    have q2 := r2.look S e2
    split at F
    case h_2 => exact F.elim
    case h_1 b e3 =>
      have q := F.flat (t := .bl b) S rfl
      unfold ordT at e3
      split at e3
      case h_1 i j => cases e3; cases q1; cases q2; exact ⟨_, op_lt, i, j, rfl, rfl, q⟩
      case h_2 i j => cases e3; cases q1; cases q2; exact ⟨_, op_le, i, j, rfl, rfl, q⟩
      case h_3 i j => cases e3; cases q1; cases q2; exact ⟨_, op_gt, i, j, rfl, rfl, q⟩
      case h_4 i j => cases e3; cases q1; cases q2; exact ⟨_, op_ge, i, j, rfl, rfl, q⟩
      case h_5 => cases e3
/-- is None, is a bool -/
def isT (t u : T) : Option Bool :=
  match t, u with
  | .non, .non => some true
  | _, .non => some false
  | .bl a, .bl b => some (decide (a = b))
  | _, _ => none
def gIs (neg : Bool) (v w : RV) : M RV := fun h => match look h v, look h w with
  | some t, some u => match isT t u with
    | some b => .ok (.t (.bl (if neg = true then !b else b))) h
    | none => .stuck
  | _, _ => .stuck
theorem isT_ok {K : PySem.W.Frag} {H : Hp} {t u : T} {x y : V} {b : Bool} (r1 : Rep K H t x) (r2 : Rep K H u y) (e : isT t u = some b) : (y = .non ∧ b = decide (x = .non)) ∨ ∃ c d, x = .bl c ∧ y = .bl d ∧ b = decide (c = d) := by
  unfold isT at e
  split at e
  · cases e; cases r1; cases r2; exact .inl ⟨rfl, rfl⟩
  · rename_i t' hn
    cases e
    cases r2
    refine .inl ⟨rfl, (decide_eq_false ?_).symm⟩
    intro z
    subst z
    cases r1
    exact hn rfl
  · cases e; cases r1; cases r2; exact .inr ⟨_, _, rfl, rfl, rfl⟩
  · cases e
theorem run_is : Run2 X tb W (compareOp .Is) (gIs false) := by
  refine Run2.cases fun σ H x y ρ h v1 v2 Q S r1 r2 F => ?_
  unfold gIs at F
  split at F
  case h_2 => exact F.elim
  case h_1 t u e1 e2 =>
    split at F
    case h_2 => exact F.elim
    case h_1 b e3 =>
      have q := F.flat (t := .bl b) S rfl
      rcases isT_ok (r1.look S e1) (r2.look S e2) e3 with ⟨h1, rfl⟩ | ⟨c, d, h1, h2, rfl⟩
      · exact ⟨_, op_isN, h1, q⟩
      · exact ⟨_, op_is_bl, c, d, h1, h2, q⟩
theorem run_isnot : Run2 X tb W (compareOp .IsNot) (gIs true) := by
  refine Run2.cases fun σ H x y ρ h v1 v2 Q S r1 r2 F => ?_
  unfold gIs at F
  split at F
  case h_2 => exact F.elim
  case h_1 t u e1 e2 =>
    split at F
    case h_2 => exact F.elim
    case h_1 b e3 =>
      have q := F.flat (t := .bl (!b)) S rfl
      rcases isT_ok (r1.look S e1) (r2.look S e2) e3 with ⟨h1, rfl⟩ | ⟨c, d, h1, h2, rfl⟩
      · exact ⟨_, op_notN, h1, q⟩
      · exact ⟨_, op_isnot_bl, c, d, h1, h2, q⟩
/-! ### in -/
def seqOf : T → Option (List T)
  | .tup xs => some xs | .lst xs => some xs | .scr xs => some xs
  | _ => none
def listOf : T → Option (List T)
  | .lst xs => some xs | .scr xs => some xs
  | _ => none
def keyOf : T → Option Key
  | .int i => some (.inl i) | .str x => some (.inr x)
  | _ => none
def inT (t u : T) : Option Bool :=
  match u with
  | .str z => match t with
    | .str x => some (!(Builtin.Str.occurrences z x 0 z.length 1).isEmpty)
    | _ => none
  | .dct kts => match keyOf t with
    | some k => some (kts.any fun p => decide (p.1 = k))
    | none => none
  | u => match seqOf u with
    | some us => if (t.flat && us.all T.flat) = true then some (us.any fun z => eqF z t) else match listOf u, t.toD, T.toDs us with
      | some _, some d, some ds => if (SeqAt.shaped d && SeqAt.shaped (.list ds)) = true then some (ds.any fun z => PyData.eqv z d) else none
      | _, _, _ => none
    | none => none
def gIn (neg : Bool) (v w : RV) : M RV := fun h => match look h v, look h w with
  | some t, some u => match inT t u with
    | some b => .ok (.t (.bl (if neg = true then !b else b))) h
    | none => .stuck
  | _, _ => .stuck
theorem Reps.flats {K : PySem.W.Frag} {F : Hp} : ∀ {ts : List T} {vs : List V}, Reps K F ts vs → ts.all T.flat = true → vs = ts.map T.v
  | _, _, .nil, _ => rfl
  | _, _, .cons h r, f => by
    simp only [List.all_cons, Bool.and_eq_true] at f
    rw [List.map_cons, h.v f.1, r.flats f.2]
theorem Rep.seq {K : PySem.W.Frag} {H : Hp} {u : T} {us : List T} {y : V} (r : Rep K H u y) (e : seqOf u = some us) : ∃ p vs, y = .ref p ∧ (SqL K H p vs ∨ SqT K H p vs) ∧ Reps K H us vs := by
  cases r with
  | tup h1 r => cases e; exact ⟨_, _, rfl, .inr h1, r⟩
  | lst h1 r => cases e; exact ⟨_, _, rfl, .inl (SqL.of h1), r⟩
  | scr h1 r => cases e; exact ⟨_, _, rfl, .inl h1, r⟩
  | _ => cases e
theorem Rep.list {K : PySem.W.Frag} {H : Hp} {u : T} {us : List T} {y : V} (r : Rep K H u y) (e : listOf u = some us) : ∃ p vs, y = .ref p ∧ SqL K H p vs ∧ Reps K H us vs := by
  cases r with
  | lst h1 r => cases e; exact ⟨_, _, rfl, SqL.of h1, r⟩
  | scr h1 r => cases e; exact ⟨_, _, rfl, h1, r⟩
  | _ => cases e
theorem inV_F {t : T} (f : t.flat = true) : ∀ {us : List T}, us.all T.flat = true → inV t.v (us.map T.v) = us.any fun z => eqF z t
  | [], _ => rfl
  | u :: us, g => by
    simp only [List.all_cons, Bool.and_eq_true] at g
    unfold inV
    rw [List.map_cons, List.any_cons, List.any_cons, eqV_F g.1 f]
    exact congrArg _ (inV_F f g.2)
theorem all_flatV : ∀ {us : List T}, us.all T.flat = true → (us.map T.v).all flatV = true
  | [], _ => rfl
  | u :: us, g => by
    simp only [List.all_cons, Bool.and_eq_true] at g
    rw [List.map_cons, List.all_cons, flat_V g.1, all_flatV g.2]
    rfl
end
end Py

set_option Elab.async false
set_option linter.all false
set_option maxRecDepth 100000
set_option maxHeartbeats 4000000
namespace Py
open PySem PySem.Spec PyProof.Rows L2 Lw LamX
def kget (kts : List (Key × T)) (k : Key) : Option T := (kts.find? fun p => decide (p.1 = k)).map (·.2)
theorem keyOf_v {t : T} {k : Key} (e : keyOf t = some k) {K : PySem.W.Frag} {F : Hp} {x : V} (r : Rep K F t x) : x = kV k := by
  cases r <;> first | (cases e; rfl) | cases e
theorem RepK.find {K : PySem.W.Frag} {F : Hp} (k : Key) : ∀ {kts : List (Key × T)} {kvs : List (Key × V)}, RepK K F kts kvs → (∀ t, kget kts k = some t → ∃ v, valV kvs k = some v ∧ Rep K F t v) ∧ (kget kts k = none → valV kvs k = none) ∧ (valV kvs k).isSome = kts.any fun p => decide (p.1 = k)
  | _, _, .nil => ⟨fun t e => (by cases e), fun _ => rfl, rfl⟩
  | _, _, .cons (k := j) (t := t0) (v := v0) (ts := ts) (vs := vs) h r => by
    by_cases e : j = k
    · have e1 : kget ((j, t0) :: ts) k = some t0 := by simp [kget, e]
      have e2 : valV ((j, v0) :: vs) k = some v0 := valV_pos (p := (j, v0)) e
      refine ⟨fun t z => ⟨v0, e2, ?_⟩, fun z => ?_, ?_⟩
      · rw [e1] at z; cases z; exact h
      · rw [e1] at z; cases z
      · rw [e2]; simp [e]
    · have e1 : kget ((j, t0) :: ts) k = kget ts k := by simp [kget, e]
      have e2 : valV ((j, v0) :: vs) k = valV vs k := valV_neg (p := (j, v0)) e
      rw [e1, e2]
      obtain ⟨h1, h2, h3⟩ := r.find k
      exact ⟨h1, h2, by rw [h3]; simp [e]⟩
section
variable {X : Cx} {tb : List (Addr × Str)} {W : WX}
theorem op_dIn (hu : X.A.units + 1 < cLine) : OpR X (compareOp .In) (fun x y H Q => ∃ a o, y = .ref a ∧ DGet H a x o ∧ Q (.bl o.isSome) H) := by
  intro pins s σ H x y v u Q I rx ry h
  obtain ⟨a, o, rfl, g, q⟩ := h
  cases (show u = Value.ref a from ry)
  exact d_in hu I g rx fun s3 I3 => ⟨.bl o.isSome, H, I3, rfl, q⟩
theorem run_in (hu : X.A.units + 65 < cLine) : Run2 X tb W (compareOp .In) (gIn false) := by
  refine Run2.cases fun σ H x y ρ h v1 v2 Q S r1 r2 F => ?_
  unfold gIn at F
  split at F
  case h_2 => exact F.elim
  case h_1 t u e1 e2 =>
    split at F
    case h_2 => exact F.elim
    case h_1 b e3 =>
      have q := F.flat (t := .bl b) S rfl
      have q1 := r1.look S e1
      have q2 := r2.look S e2
      unfold inT at e3
      split at e3
      · split at e3
        · cases e3; cases q1; cases q2
          exact ⟨_, op_in_str, _, _, rfl, rfl, q⟩
        · cases e3
      · split at e3
        · rename_i kts k ek
          cases e3
          cases q2 with
          | dct hd rk =>
            have ex := keyOf_v ek q1
            obtain ⟨_, _, f3⟩ := rk.find k
            refine ⟨_, op_dIn (by omega), _, _, rfl, .inl ⟨_, k, hd, ex, rfl⟩, ?_⟩
            rw [f3]
            exact q
        · cases e3
      · split at e3
        · rename_i us es
          split at e3
          · rename_i hf
            simp only [Bool.and_eq_true] at hf
            cases e3
            obtain ⟨p, vs, rfl, hs, rs⟩ := q2.seq es
            have ev := rs.flats hf.2
            subst ev
            have ex := q1.v hf.1
            subst ex
            refine ⟨_, op_in_seq, p, _, rfl, hs, flat_V hf.1, all_flatV hf.2, ?_⟩
            rw [if_neg Bool.false_ne_true, inV_F hf.1 hf.2]
            exact q
          · split at e3
            · rename_i us' d ds el ed eds
              split at e3
              · rename_i hsh
                simp only [Bool.and_eq_true] at hsh
                cases e3
                have eus : us' = us := by
                  revert el es
                  cases u <;> intro es el <;> first | (cases es; cases el; rfl) | cases el
                subst eus
                obtain ⟨p, vs, rfl, hs, rs⟩ := q2.list el
                exact ⟨_, op_inD hu, d, ds, q1.dp ed, .lst hs (rs.dp eds), hsh.1, hsh.2, q⟩
              · cases e3
            · cases e3
        · cases e3
theorem op_dNotIn (hu : X.A.units + 1 < cLine) : OpR X (compareOp .NotIn) (fun x y H Q => ∃ a o, y = .ref a ∧ DGet H a x o ∧ Q (.bl (!o.isSome)) H) := by
  intro pins s σ H x y v u Q I rx ry h
  obtain ⟨a, o, rfl, g, q⟩ := h
  cases (show u = Value.ref a from ry)
  exact d_notIn hu I g rx fun s3 I3 => ⟨.bl (!o.isSome), H, I3, rfl, q⟩
theorem run_notin (hu : X.A.units + 65 < cLine) : Run2 X tb W (compareOp .NotIn) (gIn true) := by
  refine Run2.cases fun σ H x y ρ h v1 v2 Q S r1 r2 F => ?_
  unfold gIn at F
  split at F
  case h_2 => exact F.elim
  case h_1 t u e1 e2 =>
    split at F
    case h_2 => exact F.elim
    case h_1 b e3 =>
      have q := F.flat (t := .bl (!b)) S rfl
      have q1 := r1.look S e1
      have q2 := r2.look S e2
      unfold inT at e3
      split at e3
      · split at e3
        · cases e3; cases q1; cases q2
          exact ⟨_, op_notin_str, _, _, rfl, rfl, q⟩
        · cases e3
      · split at e3
        · rename_i kts k ek
          cases e3
          cases q2 with
          | dct hd rk =>
            have ex := keyOf_v ek q1
            obtain ⟨_, _, f3⟩ := rk.find k
            refine ⟨_, op_dNotIn (by omega), _, _, rfl, .inl ⟨_, k, hd, ex, rfl⟩, ?_⟩
            rw [f3]
            exact q
        · cases e3
      · split at e3
        · rename_i us es
          split at e3
          · rename_i hf
            simp only [Bool.and_eq_true] at hf
            cases e3
            obtain ⟨p, vs, rfl, hs, rs⟩ := q2.seq es
            have ev := rs.flats hf.2
            subst ev
            have ex := q1.v hf.1
            subst ex
            refine ⟨_, op_notIn_seq, p, _, rfl, hs, flat_V hf.1, all_flatV hf.2, ?_⟩
            rw [if_pos rfl, inV_F hf.1 hf.2]
            exact q
          · split at e3
            · rename_i us' d ds el ed eds
              split at e3
              · rename_i hsh
                simp only [Bool.and_eq_true] at hsh
                cases e3
                have eus : us' = us := by
                  revert el es
                  cases u <;> intro es el <;> first | (cases es; cases el; rfl) | cases el
                subst eus
                obtain ⟨p, vs, rfl, hs, rs⟩ := q2.list el
                exact ⟨_, op_notInD hu, d, ds, q1.dp ed, .lst hs (rs.dp eds), hsh.1, hsh.2, q⟩
              · cases e3
            · cases e3
        · cases e3
/-! ### xs[i] -/
def idxT (t u : T) : Option T :=
  match t, u with
  | .tup xs, .int i => atI xs i
  | .lst xs, .int i => atI xs i
  | .scr xs, .int i => atI xs i
  | .str z, .int i => if z.length ≤ sizeLine then (atI z.cps.toList i).map fun c => .str ⟨#[c]⟩ else none
  | .dct kts, u => (keyOf u).bind (kget kts)
  | _, _ => none
def gIdx (v w : RV) : M RV := fun h => match look h v, look h w with
  | some t, some u => match idxT t u with
    | some r => .ok (.t r) h
    | none => .stuck
  | _, _ => .stuck
theorem Reps.atI {K : PySem.W.Frag} {F : Hp} {ts : List T} {vs : List V} {i : Int} {t : T} (r : Reps K F ts vs) (e : L2.atI ts i = some t) : ∃ v, L2.atI vs i = some v ∧ Rep K F t v := by
  unfold L2.atI at e ⊢
  rw [← r.len]
  rw [Option.bind_eq_some_iff] at e
  obtain ⟨j, e1, e2⟩ := e
  obtain ⟨v, e3, q⟩ := r.get e2
  exact ⟨v, by rw [e1]; exact e3, q⟩
/-- what is read out of a tree that a value is: over the frozen part -/
theorem look_seq {C : Sur} {ρ : Pl} {h : Hs} {H : Hp} (S : Hst C ρ h H) {v : RV} {x : V} {t : T} {ts : List T} (r : RepV C.K (Fz ρ h H) ρ v x) (e : look h v = some t) (es : seqOf t = some ts) : ∃ a xs, x = .ref a ∧ (SqL C.K H a xs ∨ SqT C.K H a xs) ∧ Reps C.K (Fz ρ h H) ts xs := by
  cases v with
  | t u =>
    cases e
    cases r with
    | tup h1 r => cases es; exact ⟨_, _, rfl, .inr (sqT_same Fz.le h1), r⟩
    | lst h1 r => cases es; exact ⟨_, _, rfl, .inl (SqL.of (Fz.le _ _ h1)), r⟩
    | scr h1 r => cases es; exact ⟨_, _, rfl, .inl (Same.seq Fz.le h1), r⟩
    | _ => cases es
  | r n =>
    obtain ⟨a, ea, rfl⟩ := r
    simp only [look, Option.map_eq_some_iff] at e
    obtain ⟨c, ec, e⟩ := e
    have q := S.cell n a c ea ec
    cases c with
    | lst xs =>
      cases e
      cases es
      obtain ⟨vs, e, r⟩ := q
      exact ⟨a, vs, rfl, .inl (SqL.of e), r⟩
    | dct kts => cases e; cases es
    | ins c ts => cases e; cases es
    | fz t' =>
      cases (show t' = t from e)
      obtain ⟨y, hy⟩ : ∃ y, y = V.ref a := ⟨_, rfl⟩
      have q' : Rep C.K (Fz ρ h H) t y := by
        rw [hy]
        exact q
      rw [← hy]
      cases q' with
      | tup h1 r => cases es; exact ⟨_, _, rfl, .inr (sqT_same Fz.le h1), r⟩
      | lst h1 r => cases es; exact ⟨_, _, rfl, .inl (SqL.of (Fz.le _ _ h1)), r⟩
      | scr h1 r => cases es; exact ⟨_, _, rfl, .inl (Same.seq Fz.le h1), r⟩
      | _ => cases es
theorem look_dct {C : Sur} {ρ : Pl} {h : Hs} {H : Hp} (S : Hst C ρ h H) {v : RV} {x : V} {kts : List (Key × T)} (r : RepV C.K (Fz ρ h H) ρ v x) (e : look h v = some (.dct kts)) : ∃ a kvs, x = .ref a ∧ Rd H a (.dK kvs) ∧ RepK C.K (Fz ρ h H) kts kvs := by
  have up : ∀ {a : Addr} {u : HO}, Rd (Fz ρ h H) a u → Rd H a u := fun q => q.elim (fun z => .inl (Fz.le _ _ z)) fun ⟨o, z⟩ => .inr ⟨o, Fz.le _ _ z⟩
  cases v with
  | t u =>
    cases e
    cases r with
    | dct h1 r => exact ⟨_, _, rfl, up h1, r⟩
  | r n =>
    obtain ⟨a, ea, rfl⟩ := r
    simp only [look, Option.map_eq_some_iff] at e
    obtain ⟨c, ec, e⟩ := e
    have q := S.cell n a c ea ec
    cases c with
    | lst xs => cases e
    | dct k2 =>
      cases e
      obtain ⟨vs, e, r⟩ := q
      exact ⟨a, vs, rfl, .inl e, r⟩
    | ins c ts => cases e
    | fz t' =>
      cases (show t' = T.dct kts from e)
      cases (show Rep C.K (Fz ρ h H) (.dct kts) (.ref a) from q) with
      | dct h1 r => exact ⟨_, _, rfl, up h1, r⟩
theorem ix_dict (hu : X.A.units + 1 < cLine) : IxR X (fun x y H Q => ∃ a v, x = .ref a ∧ DGet H a y (some v) ∧ Q v H) := by
  intro value slice pins s σ H x y v u Q I rx ry h hs
  obtain ⟨a, r, rfl, g, q⟩ := h
  obtain rfl : v = Value.ref a := rx
  exact tail_any (dict_typeIs I g) PySem.F.slot_dict_getitem.lookup (d_getItem hu I g ry fun w' s3 I3 rw' => ⟨r, H, I3, rw', q⟩) hs
def RunIx (X : Cx) (tb : List (Addr × Str)) (W : WX) (g : RV → RV → M RV) : Prop := ∀ (value slice : Expr) (pins : List (Addr × Obj)) (s : Shared) (σ : L2.St) (H : Hp) (x y : V) (u w : Value) (ρ : Pl) (h : Hs) (v1 v2 : RV) (Q : VK), Inv X pins σ H s → RelV x u → RelV y w →
  Hst (sur X tb) ρ h H → RepV X.K (Fz ρ h H) ρ v1 x → RepV X.K (Fz ρ h H) ρ v2 y → Fin (sur X tb) (at_ W σ) (RepV X.K) ρ h H (g v1 v2 h) Q → subscripted slice false u w = operate [u, w] (getItem u w) → wpAny (model X.prog X.w) X.A (subscriptTail value slice u w) (EP X pins σ Q) X.xe s
theorem run_idx (hu : X.A.units + 1 < cLine) : RunIx X tb W gIdx := by
  intro value slice pins s σ H x y u w ρ h v1 v2 Q I rx ry S r1 r2 F hs
  have go : ∃ r : R2, IxR X r ∧ r x y H Q := by
    unfold gIdx at F
    split at F
    case h_2 => exact F.elim
    case h_1 t u e1 e2 =>
      have q2 := r2.look S e2
      split at F
      case h_2 => exact F.elim
      case h_1 r e3 =>
        unfold idxT at e3
        split at e3
        · obtain ⟨a, vs, rfl, hq, rs⟩ := look_repsT S r1 e1
          obtain ⟨v, e4, q⟩ := rs.atI e3
          cases q2
          exact ⟨_, ix_tup, a, vs, _, v, rfl, rfl, sqT_same Fz.le hq, e4, F.rep S q⟩
        · obtain ⟨a, vs, rfl, hq, rs⟩ := look_reps S r1 e1
          obtain ⟨v, e4, q⟩ := rs.atI e3
          cases q2
          exact ⟨_, ix_list, a, vs, _, v, rfl, rfl, SqL.of hq, e4, F.rep S q⟩
        · rename_i xs i
          cases v1 with
          | t t0 =>
            cases e1
            cases (show Rep X.K (Fz ρ h H) (.scr xs) x from r1) with
            | scr hq rs =>
              obtain ⟨v, e4, q⟩ := rs.atI e3
              cases q2
              exact ⟨_, ix_list, _, _, _, v, rfl, rfl, Same.seq Fz.le hq, e4, F.rep S q⟩
          | r n =>
            obtain ⟨a, vs, rfl, hq, rs⟩ := look_seq S r1 e1 rfl
            have q1 := r1.look S e1
            cases q1 with
            | scr hq2 rs2 =>
              obtain ⟨v, e4, q⟩ := rs.atI e3
              cases q2
              rcases hq with hq | hq
              · exact ⟨_, ix_list, a, _, _, v, rfl, rfl, hq, e4, F.rep S q⟩
              · exact ⟨_, ix_tup, a, _, _, v, rfl, rfl, hq, e4, F.rep S q⟩
        · split at e3
          · rename_i hl
            rw [Option.map_eq_some_iff] at e3
            obtain ⟨c, e4, rfl⟩ := e3
            have q1 := r1.look S e1
            cases q1
            cases q2
            exact ⟨_, ix_str, _, _, c, rfl, rfl, hl, e4, F.flat (t := .str _) S rfl⟩
          · cases e3
        · rw [Option.bind_eq_some_iff] at e3
          obtain ⟨k, ek, e4⟩ := e3
          obtain ⟨a, kvs, rfl, hd, rk⟩ := look_dct S r1 e1
          obtain ⟨f1, _, _⟩ := rk.find k
          obtain ⟨v, e5, q⟩ := f1 r e4
          exact ⟨_, ix_dict hu, a, v, rfl, .inl ⟨kvs, k, hd, keyOf_v ek q2, e5.symm⟩, F.rep S q⟩
        · cases e3
  obtain ⟨r, hr, q⟩ := go
  exact hr value slice pins s σ H x y u w Q I rx ry q hs
theorem pe_idx_ {a b : Expr} {pos : Pos} {f : RV → RV → M RV} {ga gb : Ev → M RV} (ho : RunIx X tb W f) (ha : PE X a (TI X tb W ga)) (hb : PE X b (TI X tb W gb)) (hs : PlainIx b) : PE X (.Subscript a b pos) (TI X tb W (g2 f ga gb)) := by
  refine ⟨fun pins s σ H Q I hq => ?_⟩
  obtain ⟨ρ, env, h, S, E, F⟩ := hq
  refine Subscript_ (binT ha hb (R := fun x y H2 => ∃ ρ h v1 v2, Hst (sur X tb) ρ h H2 ∧ RepV X.K (Fz ρ h H2) ρ v1 x ∧ RepV X.K (Fz ρ h H2) ρ v2 y ∧ Fin (sur X tb) (at_ W σ) (RepV X.K) ρ h H2 (f v1 v2 h) Q) I
    ⟨ρ, env, h, S, E, F.bind fun v h1 ρ1 H1 x S1 st1 r1 F1 => ⟨ρ1, env, h1, S1, E.step st1, F1.bind fun w h2 ρ2 H2 y S2 st2 r2 F2 => ⟨ρ2, h2, v, w, S2, r1.step st2, r2, F2⟩⟩⟩ fun v u s2 x y H2 I2 rx ry ⟨ρ, h, v1, v2, S, r1, r2, F⟩ => ?_)
  exact ho a b pins s2 σ H2 x y v u ρ h v1 v2 Q I2 rx ry S r1 r2 F (hs _ _)
end
end Py

set_option Elab.async false
set_option linter.all false
set_option maxRecDepth 100000
set_option maxHeartbeats 4000000
namespace Py
open PySem PySem.Spec PyProof.Rows L2 Lw LamX
/-! ### slices -/
def cutT {α : Type} (xs : List α) (lo hi : Option Int) : List α := (xs.drop (HT.sIx xs.length 0 lo)).take (HT.sIx xs.length xs.length hi - HT.sIx xs.length 0 lo)
theorem Reps.cut {K : PySem.W.Frag} {F : Hp} {ts : List T} {vs : List V} (r : Reps K F ts vs) (lo hi : Option Int) : Reps K F (cutT ts lo hi) (cutV vs lo hi) := by
  unfold cutT cutV
  rw [← r.len]
  exact (r.drop _).take _
def slcT (t : T) (lo hi : Option Int) : Option T :=
  match t with
  | .tup xs => some (.tup (cutT xs lo hi))
  | .lst xs => some (.lst (cutT xs lo hi))
  | .str z => if z.length ≤ sizeLine then some (.str (cutS z lo hi)) else none
  | _ => none
def gSlc (hp : Bool) (v : RV) (lo hi : Option Int) : M RV := fun h => match look h v with
  | some t => match slcT t lo hi with
    | some r => fresh hp r h
    | none => .stuck
  | none => .stuck
def asI : RV → M (Option Int)
  | .t (.int i) => fun h => .ok (some i) h
  | _ => fun _ => .stuck
def gPart : Option (Ev → M RV) → Ev → M (Option Int)
  | none => fun _ h => .ok none h
  | some g => fun env h => (g env h).bind asI
def g3 (f : RV → Option Int → Option Int → M RV) (a : Ev → M RV) (lo hi : Ev → M (Option Int)) : Ev → M RV := fun env h => (a env h).bind fun v h1 => (lo env h1).bind fun l h2 => (hi env h2).bind fun u h3 => f v l u h3
section
variable {X : Cx} {tb : List (Addr × Str)} {W : WX}
def TPI (X : Cx) (tb : List (Addr × Str)) (W : WX) (g : Ev → M (Option Int)) : TO := fun σ H Q => ∃ ρ env h, Hst (sur X tb) ρ h H ∧ EnvR X.K (Fz ρ h H) ρ env σ ∧ Fin (sur X tb) (at_ W σ) (fun _ _ a b => a = b) ρ h H (g env h) Q
theorem po_none_ : PO X none (TPI X tb W (gPart none)) := by
  refine ⟨fun pins s σ H Q I hq => po_none.run pins s σ H Q I ?_⟩
  obtain ⟨ρ, env, h, S, E, F⟩ := hq
  exact F.ok S rfl
theorem po_some_ {e : Expr} {g : Ev → M RV} (he : PE X e (TI X tb W g)) : PO X (some e) (TPI X tb W (gPart (some g))) := by
  refine ⟨fun pins s σ H Q I hq => (po_some he).run pins s σ H Q I ?_⟩
  obtain ⟨ρ, env, h, S, E, F⟩ := hq
  refine ⟨ρ, env, h, S, E, F.bind fun v h1 ρ1 H1 x S1 st1 r1 F1 => ?_⟩
  cases v with
  | r n => exact F1.elim
  | t t =>
    cases t with
    | int i =>
      cases r1
      exact ⟨i, rfl, F1.ok S1 rfl⟩
    | _ => exact F1.elim
theorem SlR.any {r : V → Option Int → Option Int → Hp → VK → Prop} (h : ∀ x lo hi H Q, r x lo hi H Q → rSlA X.K x lo hi H Q ∨ rSlL X.K x lo hi H Q ∨ rSlS x lo hi H Q) : SlR X r := by
  intro pins s σ H x v vl vu lo hi sl Q I rx hs pl pu q
  rcases h _ _ _ _ _ q with q | q | q
  · exact sl_tupA pins s σ H x v vl vu lo hi sl Q I rx hs pl pu q
  · exact sl_list pins s σ H x v vl vu lo hi sl Q I rx hs pl pu q
  · exact sl_str pins s σ H x v vl vu lo hi sl Q I rx hs pl pu q
def rSlc (X : Cx) (tb : List (Addr × Str)) (hp : Bool) : V → Option Int → Option Int → Hp → VK → Prop := fun x lo hi H Q => ∃ (A : XK) (ρ : Pl) (h : Hs) (v : RV), Hst (sur X tb) ρ h H ∧ RepV X.K (Fz ρ h H) ρ v x ∧ Fin (sur X tb) A (RepV X.K) ρ h H (gSlc hp v lo hi h) Q
theorem sl_all (hp : Bool) : SlR X (rSlc X tb hp) := SlR.any fun x lo hi H Q ⟨A, ρ, h, v, S, r, F⟩ => by
  unfold gSlc at F
  split at F
  case h_2 => exact F.elim
  case h_1 t e =>
    split at F
    case h_2 => exact F.elim
    case h_1 u e2 =>
      unfold slcT at e2
      split at e2
      · rename_i xs
        cases e2
        obtain ⟨a, vs, rfl, hs, rs⟩ := look_repsT S r e
        have hc := rs.cut lo hi
        refine .inl ⟨a, vs, rfl, sqT_same Fz.le hs, fun z => ?_, fun _ => (fresh_tup S hc F).2⟩
        have e3 : cutV vs lo hi = vs := by
          unfold cutV
          rw [z.1, z.2, List.drop_zero, Nat.sub_zero, List.take_length]
        have e4 : cutT xs lo hi = xs := by
          unfold cutT
          rw [rs.len, z.1, z.2, List.drop_zero, Nat.sub_zero, ← rs.len, List.take_length]
        rw [e4] at F
        rw [show fresh hp (T.tup xs) h = if xs.length ≤ sizeLine then .ok (.t (.tup xs)) h else .stuck from rfl] at F
        split at F
        · exact F.rep S (.tup hs rs)
        · exact F.elim
      · cases e2
        obtain ⟨a, vs, rfl, hs, rs⟩ := look_reps S r e
        exact .inr (.inl ⟨a, vs, rfl, SqL.of hs, (fresh_lst S (rs.cut lo hi) F).2⟩)
      · split at e2
        · rename_i hl
          cases e2
          have q := r.look S e
          cases q
          exact .inr (.inr ⟨_, rfl, hl, F.flat (t := .str _) S rfl⟩)
        · cases e2
      · cases e2
theorem pe_slc_ {e : Expr} {lo hi : Option Expr} {pos p2 : Pos} {hp : Bool} {g : Ev → M RV} {gl gh : Ev → M (Option Int)} (he : PE X e (TI X tb W g)) (hl : PO X lo (TPI X tb W gl)) (hu : PO X hi (TPI X tb W gh)) : PE X (.Subscript e (.Slice lo hi none p2) pos) (TI X tb W (g3 (gSlc hp) g gl gh)) := by
  refine ⟨fun pins s σ H Q I hq => (pe_slice (sl_all (tb := tb) hp) he hl hu).run pins s σ H Q I ?_⟩
  obtain ⟨ρ, env, h, S, E, F⟩ := hq
  exact ⟨ρ, env, h, S, E, F.bind fun v h1 ρ1 H1 x S1 st1 r1 F1 => ⟨ρ1, env, h1, S1, E.step st1, F1.bind fun l h2 ρ2 H2 y S2 st2 r2 F2 => by
    subst r2
    exact ⟨ρ2, env, h2, S2, (E.step st1).step st2, F2.bind fun u h3 ρ3 H3 z S3 st3 r3 F3 => by
      subst r3
      exact ⟨_, ρ3, h3, v, S3, (r1.step st2).step st3, F3⟩⟩⟩⟩
/-! ### built-in functions -/
theorem RunL.cases {f : Value} {g : List RV → M RV}
    (k : ∀ (σ : L2.St) (H : Hp) (xs : List V) (ρ : Pl) (h : Hs) (vs : List RV) (Q : VK), Hst (sur X tb) ρ h H → RepVs X.K (Fz ρ h H) ρ vs xs → Fin (sur X tb) (at_ W σ) (RepV X.K) ρ h H (g vs h) Q → ∃ r : List V → Hp → VK → Prop, CallR X f r ∧ r xs H Q) : RunL X tb W (fun us => call f us) g :=
  fun pins s σ H xs us ρ h vs Q I rx S r F => by
    obtain ⟨r, ho, q⟩ := k σ H xs ρ h vs Q S r F
    exact ho pins s σ H xs us Q I rx q
theorem pe_callB_ {x : Str} {id : String} {e : Expr} {es : List Expr} {p pos : Pos} {f : List RV → M RV} {gs : Ev → M (List RV)} (hc : RunL X tb W (fun us => call (.builtin id) us) f) (hg : Gl X x) (hm : X.mg x = none) (hv : bootBuiltins x = some (.builtin id)) (ha : PA X (e :: es) (TAI X tb W gs)) (hn : x ≠ "__name__") (hdb : (x == ("__debug__" : Str)) = false)
    (he : starEach (e :: es) X.env = (false, eval e X.env) :: starEach es X.env) (hpl : (backTo pos (starEach es X.env)).any (·.1) = false) : PE X (.Call (.Name x p) (e :: es) [] pos) (TI X tb W (gL f gs)) := by
  refine ⟨fun pins s σ H Q I hq => ?_⟩
  obtain ⟨ρ, env, h, S, E, F⟩ := hq
  refine wpAny_Call_Name_kw (ld_blt I hg hm hv ?_ hn hdb)
  exact PyProof.Rows.callWith_builtin1 (thn (ha.run pos pins s σ H (fun xs H1 => ∃ ρ h vs, Hst (sur X tb) ρ h H1 ∧ RepVs X.K (Fz ρ h H1) ρ vs xs ∧ Fin (sur X tb) (at_ W σ) (RepV X.K) ρ h H1 (f vs h) Q) I
    ⟨ρ, env, h, S, E, F.bind fun vs h1 ρ1 H1 xs S1 st1 r1 F1 => ⟨ρ1, h1, vs, S1, r1, F1⟩⟩) fun us s1 ⟨xs, H1, I1, r1, ρ, h, vs, S, rs, F⟩ => hc pins s1 σ H1 xs us ρ h vs Q I1 r1 S rs F) he hpl
theorem pe_callTy_ {x : Str} {id : String} {e : Expr} {es : List Expr} {p pos : Pos} {f : List RV → M RV} {gs : Ev → M (List RV)} (hc : RunL X tb W (fun us => call (.type id) us) f) (hg : Gl X x) (hm : X.mg x = none) (hv : bootBuiltins x = some (.type id)) (ha : PA X (e :: es) (TAI X tb W gs)) (hn : x ≠ "__name__") (hdb : (x == ("__debug__" : Str)) = false)
    (he : starEach (e :: es) X.env = (false, eval e X.env) :: starEach es X.env) (hpl : (backTo pos (starEach es X.env)).any (·.1) = false) : PE X (.Call (.Name x p) (e :: es) [] pos) (TI X tb W (gL f gs)) := by
  refine ⟨fun pins s σ H Q I hq => ?_⟩
  obtain ⟨ρ, env, h, S, E, F⟩ := hq
  refine wpAny_Call_Name_kw (ld_blt I hg hm hv ?_ hn hdb)
  exact PyProof.Rows.callWith_type1 (thn (ha.run pos pins s σ H (fun xs H1 => ∃ ρ h vs, Hst (sur X tb) ρ h H1 ∧ RepVs X.K (Fz ρ h H1) ρ vs xs ∧ Fin (sur X tb) (at_ W σ) (RepV X.K) ρ h H1 (f vs h) Q) I
    ⟨ρ, env, h, S, E, F.bind fun vs h1 ρ1 H1 xs S1 st1 r1 F1 => ⟨ρ1, h1, vs, S1, r1, F1⟩⟩) fun us s1 ⟨xs, H1, I1, r1, ρ, h, vs, S, rs, F⟩ => hc pins s1 σ H1 xs us ρ h vs Q I1 r1 S rs F) he hpl
end
end Py

set_option Elab.async false
set_option linter.all false
set_option maxRecDepth 100000
set_option maxHeartbeats 4000000
namespace Py
open PySem PySem.Spec PyProof.Rows L2 Lw LamX
/-- what the text's classes are, and who is one of whom -/
structure Tbl where
  cls : List Str
  errs : List Str
  isa : List (Tag × Tag × Bool)
  exm : List (Str × Str × Bool)
  fld : List (Str × Str)
  consts : List (Str × T)
  defs : List Str
  mets : List (Str × Str)
  props : List (Str × Str)
  stats : List (Str × Str)
  nfs : List (Str × Tag)
def Tbl.tag (B : Tbl) : T → Option Tag
  | .non => some (.ty "NoneType")
  | .bl _ => some (.ty "bool")
  | .int _ => some (.ty "int")
  | .str _ => some (.ty "str")
  | .tup _ => some (.ty "tuple")
  | .lst _ => some (.ty "list")
  | .scr _ => some (.ty "list")
  | .dct _ => some (.ty "dict")
  | .obj c _ => if B.cls.contains c = true then some (.own c) else none
  | .err c _ => if B.errs.contains c = true then some (.own c) else none
  | _ => none
def Tbl.isA (B : Tbl) (g c : Tag) : Option Bool := (B.isa.find? fun p => decide (p.1 = g) && decide (p.2.1 = c)).map (·.2.2)
/-- what of it holds in the written part -/
structure ClsF (K : PySem.W.Frag) (C : Addr) : Prop where
  cls : Cls K C
  ca : PySem.W.findIn K (.ref C) "__class__" = some (some (.builtin "object.__class__"))
  cg : PySem.W.specialIn K (.builtin "object.__class__") "__get__" = some (some (.builtin "getset_descriptor.__get__"))
  ct : PySem.W.takesIn K (.builtin "object.__class__") = some true
  cm : PySem.W.mroIn K C (.type "object") = some true
  nf : PySem.W.selfFirst K C = true
structure Facts (K : PySem.W.Frag) (B : Tbl) : Prop where
  cls : ∀ c, B.cls.contains c = true → ClsF K (He.ga K c)
  errs : ∀ c, B.errs.contains c = true → XcC K (He.ga K c)
  isa : ∀ p ∈ B.isa, PySem.W.kitOne K (p.1.val K) (p.2.1.val K) = some p.2.2
  exm : ∀ p ∈ B.exm, PySem.W.exmOne K (.ref (He.ga K p.1)) (.ref (He.ga K p.2.1)) = some p.2.2
  nfs : ∀ p ∈ B.nfs, PySem.W.notFirst K (He.ga K p.1) (p.2.val K) = true
theorem Facts.isA {K : PySem.W.Frag} {B : Tbl} (f : Facts K B) {g c : Tag} {b : Bool} (e : B.isA g c = some b) : PySem.W.kitOne K (g.val K) (c.val K) = some b := by
  unfold Tbl.isA at e
  rw [Option.map_eq_some_iff] at e
  obtain ⟨p, e1, rfl⟩ := e
  have h1 := f.isa p (List.mem_of_find?_eq_some e1)
  have h2 := List.find?_some e1
  simp only [Bool.and_eq_true, decide_eq_true_eq] at h2
  rw [h2.1, h2.2] at h1
  exact h1
def lenT : T → Option Nat
  | .str y => if y.length ≤ sizeLine then some y.length else none
  | .tup xs => some xs.length
  | .lst xs => some xs.length
  | .scr xs => some xs.length
  | .dct kts => some kts.length
  | _ => none
/-- a built-in that reads one tree and brings one -/
def gR1 (f : T → Option T) : List RV → M RV
  | [v] => fun h => match (look h v).bind f with
    | some r => .ok (.t r) h
    | none => .stuck
  | _ => fun _ => .stuck
def gR1n (hp : Bool) (f : T → Option T) : List RV → M RV
  | [v] => fun h => match (look h v).bind f with
    | some r => fresh hp r h
    | none => .stuck
  | _ => fun _ => .stuck
def gR2 (f : T → T → Option T) : List RV → M RV
  | [v, w] => fun h => match look h v, look h w with
    | some t, some u => match f t u with
      | some r => .ok (.t r) h
      | none => .stuck
    | _, _ => .stuck
  | _ => fun _ => .stuck
def intOf : T → Option Int
  | .int i => some i
  | _ => none
def strOf : T → Option Str
  | .str x => some x
  | _ => none
def blOf : T → Option Bool
  | .bl b => some b
  | _ => none
def allOf {α : Type} (f : T → Option α) : List T → Option (List α)
  | [] => some []
  | t :: ts => match f t, allOf f ts with
    | some a, some as => some (a :: as)
    | _, _ => none
def fLen (t : T) : Option T := (lenT t).map fun n => .int n
def fInt : T → Option T
  | .int i => some (.int i)
  | .bl b => some (.int (if b = true then 1 else 0))
  | .str a => match PySem.intText? a with
    | some n => if a.length ≤ 640 then some (.int n) else none
    | none => none
  | _ => none
def fStr : T → Option T
  | .int i => if i.natAbs.log2 < 1920 then some (.str (toString i)) else none
  | .str x => some (.str x)
  | _ => none
def fAbs : T → Option T
  | .int i => some (.int (if i < 0 then -i else i))
  | _ => none
def fMax : T → T → Option T
  | .int i, .int j => some (.int (if j > i then j else i))
  | _, _ => none
def fMin : T → T → Option T
  | .int i, .int j => some (.int (if j < i then j else i))
  | _, _ => none
def fAll (t : T) : Option T := ((listOf t).bind (allOf blOf)).map fun bs => .bl (bs.all id)
def fAny (t : T) : Option T := ((listOf t).bind (allOf blOf)).map fun bs => .bl (bs.any id)
def fSum (t : T) : Option T := ((listOf t).bind (allOf intOf)).map fun ns => .int ns.sum
def T.flats : List (Key × T) → Option (List PyData)
  | [] => some []
  | (k, t) :: r => if t.flat = true then match t.toD, T.flats r with
      | some d, some ds => some (d :: ds)
      | _, _ => none
    else none
/-- for repr: data, or a dict of flat values -/
def T.toDr : T → Option PyData
  | .dct kts => (T.flats kts).map fun ds => .dict ((kts.map fun p => keyD p.1).zip ds)
  | t => t.toD
def fRepr (t : T) : Option T := match t.toDr with
  | some d => if (d.showable && decide (d.shown.length ≤ sizeLine) && decide (d.depth ≤ 60)) = true then some (.str d.shown) else none
  | none => none
def fIs (B : Tbl) (t u : T) : Option T := match u with
  | .cl c => ((B.tag t).bind fun g => B.isA g c).map .bl
  | _ => none
def fTup (t : T) : Option T := (seqOf t).map .tup
def fList : T → Option T
  | .dct kts => some (.lst (kts.map fun p => match p.1 with | .inl i => .int i | .inr x => .str x))
  | t => (seqOf t).map .lst
def isort (ns : List Int) : List Int := ns.mergeSort fun a b => decide (a ≤ b)
theorem isort_perm (ns : List Int) : (isort ns).Perm ns := List.mergeSort_perm ..
theorem isort_pw (ns : List Int) : (isort ns).Pairwise (· ≤ ·) := by
  have h := List.pairwise_mergeSort (le := fun a b : Int => decide (a ≤ b)) (fun a b c h1 h2 => by simp at *; omega) (fun a b => by simp; omega) ns
  exact h.imp fun e => by simpa using e
theorem isort_eq {ns ms : List Int} (h : ms.Perm ns) (p : ms.Pairwise (· ≤ ·)) : ms = isort ns := PySem.W.ksm_same (h.trans (isort_perm ns).symm) p (isort_pw ns)
def fSorted (t : T) : Option T := ((listOf t).bind (allOf intOf)).map fun ns => .lst ((isort ns).map .int)
section
variable {K : PySem.W.Frag} {F : Hp}
theorem Reps.ints : ∀ {ts : List T} {xs : List V} {ns : List Int}, Reps K F ts xs → allOf intOf ts = some ns → xs = ns.map V.int
  | _, _, _, .nil, e => by cases e; rfl
  | _, _, _, .cons (t := t) (ts := ts) h r, e => by
    simp only [allOf] at e
    split at e
    · rename_i a as e1 e2
      cases e
      rw [List.map_cons, ← Reps.ints r e2]
      cases h <;> first | (cases e1; rfl) | cases e1
    · cases e
theorem Reps.bls : ∀ {ts : List T} {xs : List V} {ns : List Bool}, Reps K F ts xs → allOf blOf ts = some ns → xs = ns.map V.bl
  | _, _, _, .nil, e => by cases e; rfl
  | _, _, _, .cons (t := t) (ts := ts) h r, e => by
    simp only [allOf] at e
    split at e
    · rename_i a as e1 e2
      cases e
      rw [List.map_cons, ← Reps.bls r e2]
      cases h <;> first | (cases e1; rfl) | cases e1
    · cases e
theorem Reps.strs : ∀ {ts : List T} {xs : List V} {ns : List Str}, Reps K F ts xs → allOf strOf ts = some ns → xs = ns.map V.str
  | _, _, _, .nil, e => by cases e; rfl
  | _, _, _, .cons (t := t) (ts := ts) h r, e => by
    simp only [allOf] at e
    split at e
    · rename_i a as e1 e2
      cases e
      rw [List.map_cons, ← Reps.strs r e2]
      cases h <;> first | (cases e1; rfl) | cases e1
    · cases e
theorem reps_ints : ∀ ns : List Int, Reps K F (ns.map T.int) (ns.map V.int)
  | [] => .nil
  | n :: ns => .cons (.int n) (reps_ints ns)
theorem reps_strs : ∀ ns : List Str, Reps K F (ns.map T.str) (ns.map V.str)
  | [] => .nil
  | n :: ns => .cons (.str n) (reps_strs ns)
end
section
variable {X : Cx} {tb : List (Addr × Str)} {W : WX}
/-- one argument, read: its full reading t, the flat answer -/
theorem run_r1 {f : Value} {g : T → Option T} (hf : ∀ t r, g t = some r → r.flat = true)
    (k : ∀ (H : Hp) (t r : T) (x : V) (Q : VK), Rep X.K H t x → g t = some r → Q r.v H → ∃ q : List V → Hp → VK → Prop, CallR X f q ∧ q [x] H Q) : RunL X tb W (fun us => call f us) (gR1 g) := by
  refine RunL.cases fun σ H xs ρ h vs Q S r F => ?_
  cases r with
  | nil => exact F.elim
  | cons r1 rs =>
    cases rs with
    | cons _ _ => exact F.elim
    | nil =>
      unfold gR1 at F
      simp only at F
      split at F
      case h_2 => exact F.elim
      case h_1 u e =>
        rw [Option.bind_eq_some_iff] at e
        obtain ⟨t, e1, e2⟩ := e
        exact k H t u _ Q (r1.look S e1) e2 (F.flat S (hf t u e2))
theorem run_r2 {f : Value} {g : T → T → Option T} (hf : ∀ t u r, g t u = some r → r.flat = true)
    (k : ∀ (H : Hp) (t u r : T) (x y : V) (Q : VK), Rep X.K H t x → Rep X.K H u y → g t u = some r → Q r.v H → ∃ q : List V → Hp → VK → Prop, CallR X f q ∧ q [x, y] H Q) : RunL X tb W (fun us => call f us) (gR2 g) := by
  refine RunL.cases fun σ H xs ρ h vs Q S r F => ?_
  cases r with
  | nil => exact F.elim
  | cons r1 rs =>
    cases rs with
    | nil => exact F.elim
    | cons r2 rs =>
      cases rs with
      | cons _ _ => exact F.elim
      | nil =>
        unfold gR2 at F
        simp only at F
        split at F
        case h_2 => exact F.elim
        case h_1 t u e1 e2 =>
          split at F
          case h_2 => exact F.elim
          case h_1 r e3 => exact k H t u r _ _ Q (r1.look S e1) (r2.look S e2) e3 (F.flat S (hf t u r e3))
theorem call_lenDR : CallR X (.builtin "len") (fun xs H Q => ∃ a kvs, xs = [V.ref a] ∧ Rd H a (.dK kvs) ∧ Q (.int kvs.length) H) := by
  intro pins s σ H xs us Q I r h
  obtain ⟨a, kvs, rfl, hd, q⟩ := h
  obtain ⟨u, rfl, ru⟩ := r.one
  cases (show u = Value.ref a from ru)
  exact d_len I hd fun t s' I' => ⟨.int kvs.length, H, I', ⟨t, rfl⟩, q⟩
theorem run_len : RunL X tb W (fun us => call (.builtin "len") us) (gR1 fLen) := by
  refine run_r1 (fun t r e => ?_) fun H t r x Q q e qr => ?_
  · unfold fLen at e
    rw [Option.map_eq_some_iff] at e
    obtain ⟨n, _, rfl⟩ := e
    rfl
  · unfold fLen at e
    rw [Option.map_eq_some_iff] at e
    obtain ⟨n, e1, rfl⟩ := e
    cases q with
    | str y =>
      simp only [lenT] at e1
      split at e1
      · rename_i hl
        cases e1
        exact ⟨_, call_len, _, _, rfl, ⟨hl, rfl⟩, qr⟩
      · cases e1
    | tup hs rs => cases e1; exact ⟨_, call_len, _, _, rfl, .inr ⟨_, hs, rs.len⟩, qr⟩
    | lst hs rs => cases e1; exact ⟨_, call_len, _, _, rfl, .inl ⟨_, SqL.of hs, rs.len⟩, qr⟩
    | scr hs rs => cases e1; exact ⟨_, call_len, _, _, rfl, .inl ⟨_, hs, rs.len⟩, qr⟩
    | dct hd rk =>
      cases e1
      refine ⟨_, call_lenDR, _, _, rfl, hd, ?_⟩
      rw [← rk.len]
      exact qr
    | _ => cases e1
theorem run_int : RunL X tb W (fun us => call (.type "int") us) (gR1 fInt) := by
  refine run_r1 (fun t r e => ?_) fun H t r x Q q e qr => ?_
  · unfold fInt at e
    split at e
    · cases e; rfl
    · cases e; rfl
    · split at e
      · split at e
        · cases e; rfl
        · cases e
      · cases e
    · cases e
  · cases q with
    | int i => cases e; exact ⟨_, call_int1, .inl ⟨i, rfl, qr⟩⟩
    | bl b => cases e; exact ⟨_, call_int1, .inr ⟨b, rfl, qr⟩⟩
    | str y =>
      simp only [fInt] at e
      split at e
      · rename_i n en
        split at e
        · rename_i hl
          cases e
          exact ⟨_, call_int_str, y, n, rfl, en, hl, qr⟩
        · cases e
      · cases e
    | _ => cases e
theorem run_str : RunL X tb W (fun us => call (.type "str") us) (gR1 fStr) := by
  refine run_r1 (fun t r e => ?_) fun H t r x Q q e qr => ?_
  · unfold fStr at e
    split at e
    · split at e
      · cases e; rfl
      · cases e
    · cases e; rfl
    · cases e
  · cases q with
    | int i =>
      simp only [fStr] at e
      split at e
      · rename_i hl
        cases e
        exact ⟨_, call_str_int, i, rfl, hl, qr⟩
      · cases e
    | str y => cases e; exact ⟨_, SkE.call_str_str, y, rfl, qr⟩
    | _ => cases e
theorem run_abs : RunL X tb W (fun us => call (.builtin "abs") us) (gR1 fAbs) := by
  refine run_r1 (fun t r e => ?_) fun H t r x Q q e qr => ?_
  · unfold fAbs at e
    split at e <;> cases e
    rfl
  · cases q with
    | int i => cases e; exact ⟨_, call_abs, i, rfl, qr⟩
    | _ => cases e
theorem run_max (hc : X.calm = true) : RunL X tb W (fun us => call (.builtin "max") us) (gR2 fMax) := by
  refine run_r2 (fun t u r e => ?_) fun H t u r x y Q q1 q2 e qr => ?_
  · unfold fMax at e
    split at e <;> cases e
    rfl
  · cases q1 with
    | int i =>
      cases q2 with
      | int j => cases e; exact ⟨_, call_max2 hc, i, j, rfl, qr⟩
      | _ => cases e
    | _ => cases e
theorem run_min (hc : X.calm = true) : RunL X tb W (fun us => call (.builtin "min") us) (gR2 fMin) := by
  refine run_r2 (fun t u r e => ?_) fun H t u r x y Q q1 q2 e qr => ?_
  · unfold fMin at e
    split at e <;> cases e
    rfl
  · cases q1 with
    | int i =>
      cases q2 with
      | int j => cases e; exact ⟨_, call_min2 hc, i, j, rfl, qr⟩
      | _ => cases e
    | _ => cases e
theorem run_all (hc : X.calm = true) : RunL X tb W (fun us => call (.builtin "all") us) (gR1 fAll) := by
  refine run_r1 (fun t r e => ?_) fun H t r x Q q e qr => ?_
  · unfold fAll at e
    rw [Option.map_eq_some_iff] at e
    obtain ⟨n, _, rfl⟩ := e
    rfl
  · unfold fAll at e
    rw [Option.map_eq_some_iff] at e
    obtain ⟨bs, e1, rfl⟩ := e
    rw [Option.bind_eq_some_iff] at e1
    obtain ⟨us, e2, e3⟩ := e1
    obtain ⟨p, vs, rfl, hs, rs⟩ := q.list e2
    rw [rs.bls e3] at hs
    exact ⟨_, cr_all hc, p, bs, rfl, hs, qr⟩
theorem run_any (hc : X.calm = true) : RunL X tb W (fun us => call (.builtin "any") us) (gR1 fAny) := by
  refine run_r1 (fun t r e => ?_) fun H t r x Q q e qr => ?_
  · unfold fAny at e
    rw [Option.map_eq_some_iff] at e
    obtain ⟨n, _, rfl⟩ := e
    rfl
  · unfold fAny at e
    rw [Option.map_eq_some_iff] at e
    obtain ⟨bs, e1, rfl⟩ := e
    rw [Option.bind_eq_some_iff] at e1
    obtain ⟨us, e2, e3⟩ := e1
    obtain ⟨p, vs, rfl, hs, rs⟩ := q.list e2
    rw [rs.bls e3] at hs
    exact ⟨_, cr_any hc, p, bs, rfl, hs, qr⟩
theorem run_sum (hc : X.calm = true) : RunL X tb W (fun us => call (.builtin "sum") us) (gR1 fSum) := by
  refine run_r1 (fun t r e => ?_) fun H t r x Q q e qr => ?_
  · unfold fSum at e
    rw [Option.map_eq_some_iff] at e
    obtain ⟨n, _, rfl⟩ := e
    rfl
  · unfold fSum at e
    rw [Option.map_eq_some_iff] at e
    obtain ⟨bs, e1, rfl⟩ := e
    rw [Option.bind_eq_some_iff] at e1
    obtain ⟨us, e2, e3⟩ := e1
    obtain ⟨p, vs, rfl, hs, rs⟩ := q.list e2
    rw [rs.ints e3] at hs
    exact ⟨_, cr_sum hc, p, bs, rfl, hs, qr⟩
theorem RepK.flats {K : PySem.W.Frag} {H : Hp} : ∀ {kts : List (Key × T)} {kvs : List (Key × V)} {ds : List PyData}, RepK K H kts kvs → T.flats kts = some ds → Paired Flat (kvs.map (·.2)) ds ∧ kvs.map (fun q => keyD q.1) = kts.map fun q => keyD q.1
  | _, _, _, .nil, e => by simp only [T.flats, Option.some.injEq] at e; subst e; exact ⟨.nil, rfl⟩
  | _, _, _, .cons (k := k) (t := t) (ts := ts) h r, e => by
    simp only [T.flats] at e
    split at e
    · rename_i hf
      split at e
      · rename_i d ds e1 e2
        cases e
        obtain ⟨p, q⟩ := r.flats e2
        refine ⟨.cons ?_ p, by rw [List.map_cons, List.map_cons, q]⟩
        cases h with
        | non => cases e1; exact .non
        | bl b => cases e1; exact .bl b
        | int b => cases e1; exact .int b
        | str b => cases e1; exact .str b
        | _ => cases hf
      · cases e
    · cases e
theorem run_repr (hg : X.A.guards = some []) (hu : X.A.units + 61 < cLine) : RunL X tb W (fun us => call (.builtin "repr") us) (gR1 fRepr) := by
  refine run_r1 (fun t r e => ?_) fun H t r x Q q e qr => ?_
  · unfold fRepr at e
    split at e
    · split at e
      · cases e; rfl
      · cases e
    · cases e
  · unfold fRepr at e
    split at e
    · rename_i d ed
      split at e
      · rename_i hs
        simp only [Bool.and_eq_true, decide_eq_true_eq] at hs
        cases e
        refine ⟨_, call_repr hg hu, x, d, _, rfl, ?_, ⟨rfl, hs.1.1, hs.1.2, hs.2⟩, qr⟩
        cases q with
        | dct hd rk =>
          simp only [T.toDr, Option.map_eq_some_iff] at ed
          obtain ⟨ds, e1, rfl⟩ := ed
          obtain ⟨f1, f2⟩ := rk.flats e1
          rw [← f2]
          exact .dicR hd f1
        | non => exact .dp (Rep.dp .non ed)
        | bl b => exact .dp (Rep.dp (.bl b) ed)
        | int b => exact .dp (Rep.dp (.int b) ed)
        | str b => exact .dp (Rep.dp (.str b) ed)
        | tup h1 h2 => exact .dp (Rep.dp (.tup h1 h2) ed)
        | lst h1 h2 => exact .dp (Rep.dp (.lst h1 h2) ed)
        | scr h1 h2 => exact .dp (Rep.dp (.scr h1 h2) ed)
        | obj h1 h2 h3 => exact .dp (Rep.dp (.obj h1 h2 h3) ed)
        | err h1 h2 => exact .dp (Rep.dp (.err h1 h2) ed)
        | fn => exact .dp (Rep.dp .fn ed)
        | clT => exact .dp (Rep.dp .clT ed)
        | clO => exact .dp (Rep.dp .clO ed)
      · cases e
    · cases e
end
end Py

set_option Elab.async false
set_option linter.all false
set_option maxRecDepth 100000
set_option maxHeartbeats 4000000
namespace Py
open PySem PySem.Spec PyProof.Rows L2 Lw LamX
inductive Ty3 where
  | s | l | d
  deriving DecidableEq
def Ty3.n : Ty3 → String
  | .s => "str" | .l => "list" | .d => "dict"
def ty3 (h : Hs) (v : RV) : Option Ty3 := match look h v with
  | some (.str _) => some .s
  | some (.lst _) => some .l
  | some (.scr _) => some .l
  | some (.dct _) => some .d
  | _ => none
/-- o.m(..), m a method of a built-in type -/
def gMet (T : Ty3) (f : RV → List RV → M RV) (a : Ev → M RV) (as : Ev → M (List RV)) : Ev → M RV := fun env h => (a env h).bind fun v h1 => if ty3 h1 v = some T then (as env h1).bind fun vs h2 => f v vs h2 else .stuck
def RunM (X : Cx) (tb : List (Addr × Str)) (W : WX) (id : String) (g : RV → List RV → M RV) : Prop := ∀ (pins : List (Addr × Obj)) (s : Shared) (σ : L2.St) (H : Hp) (x : V) (xs : List V) (u : Value) (us : List Value) (ρ : Pl) (h : Hs) (v : RV) (vs : List RV) (Q : VK), Inv X pins σ H s → RelV x u → Vals xs us →
  Hst (sur X tb) ρ h H → RepV X.K (Fz ρ h H) ρ v x → RepVs X.K (Fz ρ h H) ρ vs xs → Fin (sur X tb) (at_ W σ) (RepV X.K) ρ h H (g v vs h) Q → wpAny (model X.prog X.w) X.A (call (.builtin id) (u :: us)) (EP X pins σ Q) X.xe s
section
variable {X : Cx} {tb : List (Addr × Str)} {W : WX}
theorem ty3_is {pins : List (Addr × Obj)} {s : Shared} {σ : L2.St} {H : Hp} {x : V} {u : Value} {ρ : Pl} {h : Hs} {v : RV} {T : Ty3} (I : Inv X pins σ H s) (rx : RelV x u) (S : Hst (sur X tb) ρ h H) (r : RepV X.K (Fz ρ h H) ρ v x) (e : ty3 h v = some T) :
    s.TypeIs u T.n ∧ ∀ a, u = .ref a → ∃ ob, s.heap.get? a = some ob ∧ ob.dict = none := by
  unfold ty3 at e
  split at e
  · rename_i z el
    cases e
    have q := r.look S el
    cases q
    exact tyV_is I rx (show tyV X.K "str" (.str z) H from rfl)
  · rename_i z el
    cases e
    have q := r.look S el
    cases q with
    | lst h1 _ => exact tyV_is I rx (show tyV X.K "list" (.ref _) H from .inl ⟨rfl, _, SqL.of h1⟩)
  · rename_i z el
    cases e
    have q := r.look S el
    cases q with
    | scr h1 _ => exact tyV_is I rx (show tyV X.K "list" (.ref _) H from .inl ⟨rfl, _, h1⟩)
  · rename_i z el
    cases e
    have q := r.look S el
    cases q with
    | dct h1 _ =>
      cases rx
      obtain ⟨t1, t2, _⟩ := isD_at I (.inl ⟨_, h1⟩)
      exact ⟨t1, t2⟩
  · cases e
theorem pe_met_ {o e : Expr} {es : List Expr} {name : Str} {id : String} {T : Ty3} {apos cpos : Pos} {f : RV → List RV → M RV} {ga : Ev → M RV} {gs : Ev → M (List RV)} (pa : PlainAttrs T.n) (slot : Slot T.n name id) (hty : typeOf (.builtin id) = pure (.type "method_descriptor")) (hm : RunM X tb W id f)
    (ho : PE X o (TI X tb W ga)) (ha : PA X (e :: es) (TAI X tb W gs)) (hbase : attributeBase o name X.env (eval o X.env) = eval o X.env)
    (hfew : ((backTo cpos (starEach (e :: es) X.env)).all (fun x => !x.1) && (backToKw cpos (keywordEach [] X.env)).all (fun x => x.1.isSome)
      && decide ((e :: es).length + ([] : List Keyword).length + (if ([] : List Keyword).isEmpty then 0 else 1) < 30)) = true)
    (hline : (apos.endLine == cpos.line) = true) (hs : starEach (e :: es) X.env = (false, eval e X.env) :: starEach es X.env) (hplain : (backTo cpos (starEach es X.env)).any (·.1) = false) :
    PE X (.Call (.Attribute o name apos) (e :: es) [] cpos) (TI X tb W (gMet T f ga gs)) := by
  refine ⟨fun pins s σ H Q I hq => ?_⟩
  obtain ⟨ρ, env, h, S, E, F⟩ := hq
  refine wpAny_Call_method_late hbase hfew hline rfl (thn (ho.run pins s σ H (fun x H1 => ∃ ρ h1 v, Hst (sur X tb) ρ h1 H1 ∧ EnvR X.K (Fz ρ h1 H1) ρ env σ ∧ RepV X.K (Fz ρ h1 H1) ρ v x ∧ Fin (sur X tb) (at_ W σ) (RepV X.K) ρ h1 H1 (if ty3 h1 v = some T then (gs env h1).bind fun vs h2 => f v vs h2 else .stuck) Q) I
    ⟨ρ, env, h, S, E, F.bind fun v h1 ρ1 H1 x S1 st1 r1 F1 => ⟨ρ1, h1, v, S1, E.step st1, r1, F1⟩⟩) fun u s1 ⟨x, H1, I1, rx, ρ1, h1, v, S1, E1, r1, F1⟩ => ?_)
  split at F1
  · rename_i et
    obtain ⟨t1, t2⟩ := ty3_is I1 rx S1 r1 et
    refine ⟨T.n, id, pa, slot, hty, t1, t2, ?_⟩
    have hA := ha.run cpos pins s1 σ H1 (fun xs H2 => ∃ ρ h2 vs, Hst (sur X tb) ρ h2 H2 ∧ RepV X.K (Fz ρ h2 H2) ρ v x ∧ RepVs X.K (Fz ρ h2 H2) ρ vs xs ∧ Fin (sur X tb) (at_ W σ) (RepV X.K) ρ h2 H2 (f v vs h2) Q) I1
      ⟨ρ1, env, h1, S1, E1, F1.bind fun vs h2 ρ2 H2 xs S2 st2 r2 F2 => ⟨ρ2, h2, vs, S2, r1.step st2, r2, F2⟩⟩
    rw [hs] at hA ⊢
    refine Calls.callWith_builtin (by show (false || (backTo cpos (starEach es X.env)).any (·.1)) = false; rw [hplain] <;> rfl) (Calls.evalArgs_plain ?_)
    exact thn hA fun us s2 ⟨xs, H2, I2, rxs, ρ2, h2, vs, S2, r1', r2, F2⟩ => hm pins s2 σ H2 x xs u us ρ2 h2 v vs Q I2 rx rxs S2 r1' r2 F2
  · exact F1.elim
theorem pe_met0_ {o : Expr} {name : Str} {id : String} {T : Ty3} {apos cpos : Pos} {f : RV → List RV → M RV} {ga : Ev → M RV} (pa : PlainAttrs T.n) (slot : Slot T.n name id) (hty : typeOf (.builtin id) = pure (.type "method_descriptor")) (hm : RunM X tb W id f)
    (ho : PE X o (TI X tb W ga)) (hbase : attributeBase o name X.env (eval o X.env) = eval o X.env) (hline : (apos.endLine == cpos.line) = true) :
    PE X (.Call (.Attribute o name apos) [] [] cpos) (TI X tb W (gMet T f ga gNil)) := by
  refine ⟨fun pins s σ H Q I hq => ?_⟩
  obtain ⟨ρ, env, h, S, E, F⟩ := hq
  refine wpAny_Call_method0_late hbase hline (thn (ho.run pins s σ H (fun x H1 => ∃ ρ h1 v, Hst (sur X tb) ρ h1 H1 ∧ RepV X.K (Fz ρ h1 H1) ρ v x ∧ Fin (sur X tb) (at_ W σ) (RepV X.K) ρ h1 H1 (if ty3 h1 v = some T then f v [] h1 else .stuck) Q) I
    ⟨ρ, env, h, S, E, F.bind fun v h1 ρ1 H1 x S1 st1 r1 F1 => ⟨ρ1, h1, v, S1, r1, F1⟩⟩) fun u s1 ⟨x, H1, I1, rx, ρ1, h1, v, S1, r1, F1⟩ => ?_)
  split at F1
  · rename_i et
    obtain ⟨t1, t2⟩ := ty3_is I1 rx S1 r1 et
    exact ⟨T.n, id, pa, slot, hty, t1, t2, Calls.callWith_builtin rfl (PySem.evalArgs_none (hm pins s1 σ H1 x [] u [] ρ1 h1 v [] Q I1 rx .nil S1 r1 .nil F1))⟩
  · exact F1.elim
theorem RunM.cases {id : String} {g : RV → List RV → M RV}
    (k : ∀ (σ : L2.St) (H : Hp) (x : V) (xs : List V) (ρ : Pl) (h : Hs) (v : RV) (vs : List RV) (Q : VK), Hst (sur X tb) ρ h H → RepV X.K (Fz ρ h H) ρ v x → RepVs X.K (Fz ρ h H) ρ vs xs → Fin (sur X tb) (at_ W σ) (RepV X.K) ρ h H (g v vs h) Q → ∃ r : V → List V → Hp → VK → Prop, MtR X id r ∧ r x xs H Q) : RunM X tb W id g :=
  fun pins s σ H x xs u us ρ h v vs Q I rx rxs S r rs F => by
    obtain ⟨r, ho, q⟩ := k σ H x xs ρ h v vs Q S r rs F
    exact ho pins s σ H x xs u us Q I rx rxs q
/-! ### lists changed -/
def cellL (h : Hs) : RV → Option (Nat × List T)
  | .r n => match h[n]? with
    | some (.lst xs) => some (n, xs)
    | _ => none
  | .t _ => none
theorem cellL_at {C : Sur} {ρ : Pl} {h : Hs} {H : Hp} (S : Hst C ρ h H) {v : RV} {x : V} {n : Nat} {ts : List T} (r : RepV C.K (Fz ρ h H) ρ v x) (e : cellL h v = some (n, ts)) :
    ∃ a xs, x = .ref a ∧ ρ.ad[n]? = some a ∧ h[n]? = some (.lst ts) ∧ H a = some (.lst xs) ∧ Reps C.K (Fz ρ h H) ts xs := by
  unfold cellL at e
  split at e
  · rename_i m
    split at e
    · rename_i xs ec
      cases e
      obtain ⟨a, ea, rfl⟩ := r
      obtain ⟨vs, e1, rs⟩ := S.cell _ a _ ea ec
      exact ⟨a, vs, rfl, ea, ec, e1, rs⟩
    · cases e
  · cases e
/-- the list of a cell becomes another -/
theorem Hst.setL {C : Sur} {ρ : Pl} {h : Hs} {H : Hp} (S : Hst C ρ h H) {n : Nat} {a : Addr} {ts us : List T} {ys : List V} (ea : ρ.ad[n]? = some a) (ec : h[n]? = some (.lst ts)) (r : Reps C.K (Fz ρ h H) us ys) :
    Hst C ρ (h.set n (.lst us)) (upd H a (.lst ys)) ∧ Step ρ h H ρ (h.set n (.lst us)) (upd H a (.lst ys)) :=
  S.write ea ec rfl rfl (fun _ z => by cases z) ⟨ys, upd_same, r⟩
def mAppend : RV → List RV → M RV
  | v, [w] => fun h => (toT w h).bind fun t h1 => match cellL h1 v with
    | some (n, xs) => if xs.length < sizeLine then .ok (.t .non) (h1.set n (.lst (xs ++ [t]))) else .stuck
    | none => .stuck
  | _, _ => fun _ => .stuck
theorem run_append : RunM X tb W "list.append" mAppend := by
  refine RunM.cases fun σ H x xs ρ h v vs Q S r rs F => ?_
  cases rs with
  | nil => exact F.elim
  | cons r1 rs =>
    cases rs with
    | cons _ _ => exact F.elim
    | nil =>
      unfold mAppend at F
      obtain ⟨t, h1, S1, st1, r1', F1⟩ := toT_fin S r1 F
      split at F1
      · rename_i n ts e
        split at F1
        · rename_i hl
          obtain ⟨a, ys, rfl, ea, ec, e1, rr⟩ := cellL_at S1 (r.step st1) e
          obtain ⟨S2, st2⟩ := S1.setL ea ec (rr.app (.cons r1' .nil))
          refine ⟨_, mt_append, a, ys, _, rfl, rfl, e1, by rw [← rr.len]; exact hl, ?_⟩
          exact F1 _ _ _ S2 st2 .non
        · exact F1.elim
      · exact F1.elim
def mExtend : RV → List RV → M RV
  | v, [w] => fun h => match cellL h v, look h w with
    | some (n, xs), some (.lst ys) => if xs.length + ys.length ≤ sizeLine then .ok (.t .non) (h.set n (.lst (xs ++ ys))) else .stuck
    | _, _ => .stuck
  | _, _ => fun _ => .stuck
theorem run_extend : RunM X tb W "list.extend" mExtend := by
  refine RunM.cases fun σ H x xs ρ h v vs Q S r rs F => ?_
  cases rs with
  | nil => exact F.elim
  | cons r1 rs =>
    cases rs with
    | cons _ _ => exact F.elim
    | nil =>
      unfold mExtend at F
      simp only at F
      split at F
      · rename_i n ts us e e2
        split at F
        · rename_i hl
          obtain ⟨a, ys, rfl, ea, ec, e1, rr⟩ := cellL_at S r e
          obtain ⟨b, zs, rfl, e3, rr2⟩ := look_reps S r1 e2
          obtain ⟨S2, st2⟩ := S.setL ea ec (rr.app rr2)
          exact ⟨_, mt_extend, a, b, ys, zs, rfl, rfl, e1, e3, by rw [← rr.len, ← rr2.len]; exact hl, F _ _ _ S2 st2 .non⟩
        · exact F.elim
      · exact F.elim
def mPop : RV → List RV → M RV
  | v, [] => fun h => match cellL h v with
    | some (n, xs) => match xs[xs.length - 1]? with
      | some t => .ok (.t t) (h.set n (.lst xs.dropLast))
      | none => .stuck
    | none => .stuck
  | v, [.t (.int i)] => fun h => match cellL h v with
    | some (n, xs) => if 0 ≤ i ∧ i < xs.length ∧ i < 2 ^ 63 then match xs[i.toNat]? with
        | some t => .ok (.t t) (h.set n (.lst (xs.eraseIdx i.toNat)))
        | none => .stuck
      else .stuck
    | none => .stuck
  | _, _ => fun _ => .stuck
theorem Reps.erase {K : PySem.W.Frag} {F : Hp} : ∀ {ts : List T} {vs : List V} (n : Nat), Reps K F ts vs → Reps K F (ts.eraseIdx n) (vs.eraseIdx n)
  | _, _, _, .nil => .nil
  | _, _, 0, .cons _ r => r
  | _, _, n + 1, .cons h r => .cons h (r.erase n)
theorem Reps.dropLast {K : PySem.W.Frag} {F : Hp} {ts : List T} {vs : List V} (r : Reps K F ts vs) : Reps K F ts.dropLast vs.dropLast := by
  rw [List.dropLast_eq_take, List.dropLast_eq_take, r.len]
  exact r.take _
theorem run_pop : RunM X tb W "list.pop" mPop := by
  refine RunM.cases fun σ H x xs ρ h v vs Q S r rs F => ?_
  unfold mPop at F
  split at F
  · cases rs
    split at F
    · rename_i n ts e
      split at F
      · rename_i t et
        obtain ⟨a, ys, rfl, ea, ec, e1, rr⟩ := cellL_at S r e
        obtain ⟨y, ey, ry⟩ := rr.get et
        obtain ⟨S2, st2⟩ := S.setL ea ec rr.dropLast
        exact ⟨_, mt_pop, a, ys, y, rfl, rfl, e1, by rw [← rr.len]; exact ey, F _ _ _ S2 st2 (ry.same st2.same)⟩
      · exact F.elim
    · exact F.elim
  · rename_i v i
    cases rs with
    | cons r1 rs =>
      cases rs
      cases r1
      split at F
      · rename_i n ts e
        split at F
        · rename_i hi
          split at F
          · rename_i t et
            obtain ⟨a, ys, rfl, ea, ec, e1, rr⟩ := cellL_at S r e
            obtain ⟨y, ey, ry⟩ := rr.get et
            obtain ⟨S2, st2⟩ := S.setL ea ec (rr.erase i.toNat)
            have l := rr.len
            refine ⟨_, mt_popAt, a, ys, i, i.toNat, y, rfl, rfl, e1, by omega, hi.2.2, ?_, ey, F _ _ _ S2 st2 (ry.same st2.same)⟩
            have q := ixN_seq (n := ys.length) (i := i) (j := i.toNat) (by
              unfold ixN
              rw [if_pos hi.1, if_pos (by omega)])
            exact q.1
          · exact F.elim
        · exact F.elim
      · exact F.elim
  · exact F.elim
/-! ### texts -/
/-- a method of a text with one text argument, a flat answer -/
def mS1 (f : Str → Str → Option T) : RV → List RV → M RV
  | .t (.str a), [.t (.str b)] => fun h => match f a b with
    | some r => fresh false r h
    | none => .stuck
  | _, _ => fun _ => .stuck
theorem run_s1 {id : String} {f : Str → Str → Option T} (hf : ∀ a b r, f a b = some r → r.flat = true) (k : ∀ (H : Hp) (a b : Str) (r : T) (Q : VK), f a b = some r → Q r.v H → ∃ q : V → List V → Hp → VK → Prop, MtR X id q ∧ q (.str a) [.str b] H Q) : RunM X tb W id (mS1 f) := by
  refine RunM.cases fun σ H x xs ρ h v vs Q S r rs F => ?_
  unfold mS1 at F
  split at F
  · rename_i a b
    cases r
    cases rs with
    | cons r1 rs =>
      cases rs
      cases r1
      split at F
      · rename_i r e
        refine k H a b r Q e ?_
        have fl := hf a b r e
        cases r <;> first | exact F.flat S rfl | cases fl
      · exact F.elim
  · exact F.elim
def fStarts (a b : Str) : Option T := some (.bl (Txt.startswith a b))
def fEnds (a b : Str) : Option T := some (.bl (Txt.endswith a b))
def fRemSuf (a b : Str) : Option T := if a.length ≤ sizeLine then some (.str (Txt.removesuffix a b)) else none
theorem run_startswith : RunM X tb W "str.startswith" (mS1 fStarts) := run_s1 (fun a b r e => by cases e; rfl) fun H a b r Q e q => by cases e; exact ⟨_, mt_startswith, a, b, rfl, rfl, q⟩
theorem run_endswith : RunM X tb W "str.endswith" (mS1 fEnds) := run_s1 (fun a b r e => by cases e; rfl) fun H a b r Q e q => by cases e; exact ⟨_, mt_endswith, a, b, rfl, rfl, q⟩
theorem run_removesuffix : RunM X tb W "str.removesuffix" (mS1 fRemSuf) := by
  refine run_s1 (fun a b r e => ?_) fun H a b r Q e q => ?_
  · unfold fRemSuf at e
    split at e
    · cases e; rfl
    · cases e
  · unfold fRemSuf at e
    split at e
    · rename_i hl
      cases e
      exact ⟨_, mt_removesuffix, a, b, rfl, rfl, hl, q⟩
    · cases e
def mSplit (hp : Bool) : RV → List RV → M RV
  | .t (.str a), [.t (.str b)] => fun h => if ((b.length == 0) = false ∧ a.length + 2 ≤ sizeLine) then fresh hp (.lst ((Txt.split a b).map .str)) h else .stuck
  | _, _ => fun _ => .stuck
theorem run_split (hp : Bool) : RunM X tb W "str.split" (mSplit hp) := by
  refine RunM.cases fun σ H x xs ρ h v vs Q S r rs F => ?_
  unfold mSplit at F
  split at F
  · rename_i a b
    cases r
    cases rs with
    | cons r1 rs =>
      cases rs
      cases r1
      split at F
      · rename_i hl
        exact ⟨_, mt_split, a, b, rfl, rfl, hl.1, hl.2, (fresh_lst S (reps_strs _) F).2⟩
      · exact F.elim
  · exact F.elim
def mJoin : RV → List RV → M RV
  | .t (.str a), [w] => fun h => match (look h w).bind fun t => (seqOf t).bind (allOf strOf) with
    | some ys => if (ys.map (·.length)).sum + ys.length * a.length ≤ 16777216 then .ok (.t (.str (Txt.join a ys))) h else .stuck
    | none => .stuck
  | _, _ => fun _ => .stuck
theorem run_join : RunM X tb W "str.join" mJoin := by
  refine RunM.cases fun σ H x xs ρ h v vs Q S r rs F => ?_
  unfold mJoin at F
  split at F
  · rename_i a w
    cases r
    cases rs with
    | cons r1 rs =>
      cases rs
      split at F
      · rename_i ys e
        split at F
        · rename_i hl
          rw [Option.bind_eq_some_iff] at e
          obtain ⟨t, e1, e2⟩ := e
          rw [Option.bind_eq_some_iff] at e2
          obtain ⟨us, e3, e4⟩ := e2
          obtain ⟨p, vs, rfl, hs, rr⟩ := (r1.look S e1).seq e3
          rw [rr.strs e4] at hs
          exact ⟨_, mt_join, a, p, ys, rfl, rfl, hs, hl, F.flat (t := .str _) S rfl⟩
        · exact F.elim
      · exact F.elim
  · exact F.elim
/-! ### dicts read -/
def mGet (h : Hs) (v w : RV) : Option (Option T) := match look h v, look h w with
  | some (.dct kts), some u => (keyOf u).map (kget kts)
  | _, _ => none
def mGet1 : RV → List RV → M RV
  | v, [w] => fun h => match mGet h v w with
    | some (some t) => .ok (.t t) h
    | some none => .ok (.t .non) h
    | none => .stuck
  | _, _ => fun _ => .stuck
def mGet2 : RV → List RV → M RV
  | v, [w, d] => fun h => match mGet h v w with
    | some (some t) => .ok (.t t) h
    | some none => .ok d h
    | none => .stuck
  | _, _ => fun _ => .stuck
theorem mGet_at {C : Sur} {ρ : Pl} {h : Hs} {H : Hp} (S : Hst C ρ h H) {v w : RV} {x y : V} {o : Option T} (r1 : RepV C.K (Fz ρ h H) ρ v x) (r2 : RepV C.K (Fz ρ h H) ρ w y) (e : mGet h v w = some o) :
    ∃ a ov, x = .ref a ∧ DGet H a y ov ∧ ((∃ t z, o = some t ∧ ov = some z ∧ Rep C.K (Fz ρ h H) t z) ∨ (o = none ∧ ov = none)) := by
  unfold mGet at e
  split at e
  · rename_i kts u e1 e2
    rw [Option.map_eq_some_iff] at e
    obtain ⟨k, ek, rfl⟩ := e
    obtain ⟨a, kvs, rfl, hd, rk⟩ := look_dct S r1 e1
    obtain ⟨f1, f2, _⟩ := rk.find k
    have ey := keyOf_v ek (r2.look S e2)
    refine ⟨a, valV kvs k, rfl, .inl ⟨kvs, k, hd, ey, rfl⟩, ?_⟩
    cases q : kget kts k with
    | none => exact .inr ⟨rfl, f2 q⟩
    | some t =>
      obtain ⟨z, e3, r3⟩ := f1 t q
      exact .inl ⟨t, z, rfl, e3, r3⟩
  · cases e
theorem run_get1 (hu : X.A.units + 1 < cLine) : RunM X tb W "dict.get" mGet1 := by
  intro pins s σ H x xs u us ρ h v vs Q I rx rxs S r rs F
  cases rs with
  | nil => exact F.elim
  | cons r1 rs =>
    cases rs with
    | cons _ _ => exact F.elim
    | nil =>
      cases rxs with
      | cons rx1 rxs =>
        cases rxs
        unfold mGet1 at F
        simp only at F
        split at F
        · rename_i t e
          obtain ⟨a, ov, rfl, g, q | q⟩ := mGet_at S r r1 e
          · obtain ⟨t', z, e1, rfl, rz⟩ := q
            cases e1
            cases (show u = Value.ref a from rx)
            exact d_get1 hu I g rx1 fun w' s3 I3 rw' => ⟨z, H, I3, rw', F.rep S rz⟩
          · cases q.1
        · rename_i e
          obtain ⟨a, ov, rfl, g, q | q⟩ := mGet_at S r r1 e
          · obtain ⟨t', z, e1, _⟩ := q
            cases e1
          · cases (show u = Value.ref a from rx)
            obtain ⟨_, rfl⟩ := q
            exact d_get1 hu I g rx1 fun w' s3 I3 rw' => ⟨.non, H, I3, rw', F.rep S .non⟩
        · exact F.elim
theorem run_get2 (hu : X.A.units + 1 < cLine) : RunM X tb W "dict.get" mGet2 := by
  intro pins s σ H x xs u us ρ h v vs Q I rx rxs S r rs F
  cases rs with
  | nil => exact F.elim
  | cons r1 rs =>
    cases rs with
    | nil => exact F.elim
    | cons r2 rs =>
      cases rs with
      | cons _ _ => exact F.elim
      | nil =>
        cases rxs with
        | cons rx1 rxs =>
          cases rxs with
          | cons rx2 rxs =>
            cases rxs
            unfold mGet2 at F
            simp only at F
            split at F
            · rename_i t e
              obtain ⟨a, ov, rfl, g, q | q⟩ := mGet_at S r r1 e
              · obtain ⟨t', z, e1, rfl, rz⟩ := q
                cases e1
                cases (show u = Value.ref a from rx)
                exact d_get2 hu I g rx1 rx2 fun w' s3 I3 rw' => ⟨z, H, I3, rw', F.rep S rz⟩
              · cases q.1
            · rename_i e
              obtain ⟨a, ov, rfl, g, q | q⟩ := mGet_at S r r1 e
              · obtain ⟨t', z, e1, _⟩ := q
                cases e1
              · cases (show u = Value.ref a from rx)
                obtain ⟨_, rfl⟩ := q
                exact d_get2 hu I g rx1 rx2 fun w' s3 I3 rw' => ⟨_, H, I3, rw', F.ok S r2⟩
            · exact F.elim
end
end Py

set_option Elab.async false
set_option linter.all false
set_option maxRecDepth 100000
set_option maxHeartbeats 4000000
namespace Py
open PySem PySem.Spec PyProof.Rows L2 Lw LamX
/-- what a statement brings -/
inductive SRes where
  | next (env : Ev) (h : Hs) | ret (v : RV) (h : Hs) | brk (env : Ev) (h : Hs) | cnt (env : Ev) (h : Hs) | err (c : Str) (v : T) (env : Ev) (h : Hs) | stuck
abbrev SM := Ev → Hs → SRes
def Res.sb {α : Type} (r : Res α) (env : Ev) (k : α → Hs → SRes) : SRes :=
  match r with
  | .ok a h => k a h
  | .err c v h => .err c v env h
  | .stuck => .stuck
def SRes.then (r : SRes) (k : SM) : SRes :=
  match r with
  | .next env h => k env h
  | r => r
def FinS (C : Sur) (W : WX) (ρ : Pl) (h : Hs) (H : Hp) (r : SRes) (D : Ends) : Prop :=
  match r with
  | .next env' h' => ∀ (ρ' : Pl) (H' : Hp) (σ' : L2.St), Hst C ρ' h' H' → Step ρ h H ρ' h' H' → EnvR C.K (Fz ρ' h' H') ρ' env' σ' → D.nx σ' H'
  | .ret v h' => ∀ (ρ' : Pl) (H' : Hp) (x : V), Hst C ρ' h' H' → Step ρ h H ρ' h' H' → RepV C.K (Fz ρ' h' H') ρ' v x → D.rt x H'
  | .brk env' h' => ∀ (ρ' : Pl) (H' : Hp) (σ' : L2.St), Hst C ρ' h' H' → Step ρ h H ρ' h' H' → EnvR C.K (Fz ρ' h' H') ρ' env' σ' → D.bk σ' H'
  | .cnt env' h' => ∀ (ρ' : Pl) (H' : Hp) (σ' : L2.St), Hst C ρ' h' H' → Step ρ h H ρ' h' H' → EnvR C.K (Fz ρ' h' H') ρ' env' σ' → D.ct σ' H'
  | .err c t env' h' => ∀ (ρ' : Pl) (H' : Hp) (d : Addr) (x : V) (σ' : L2.St), Hst C ρ' h' H' → Step ρ h H ρ' h' H' → EnvR C.K (Fz ρ' h' H') ρ' env' σ' → H' d = some (.xd [("value", x)]) → Rep C.K (Fz ρ' h' H') t x → W (.ref (He.ga C.K c)) (some d) σ' H'
  | .stuck => False
section
variable {C : Sur} {W : WX} {α β : Type} {Rl : Hp → Pl → α → β → Prop} {ρ ρ1 : Pl} {h h1 : Hs} {H H1 : Hp} {env : Ev} {σ : L2.St} {D : Ends}
theorem FinS.rebase {r : SRes} (f : FinS C W ρ h H r D) (s : Step ρ h H ρ1 h1 H1) : FinS C W ρ1 h1 H1 r D := by
  cases r with
  | next env' h' => exact fun ρ' H' σ' S st q => f ρ' H' σ' S (s.trans st) q
  | ret v h' => exact fun ρ' H' x S st q => f ρ' H' x S (s.trans st) q
  | brk env' h' => exact fun ρ' H' σ' S st q => f ρ' H' σ' S (s.trans st) q
  | cnt env' h' => exact fun ρ' H' σ' S st q => f ρ' H' σ' S (s.trans st) q
  | err c t env' h' => exact fun ρ' H' d x σ' S st q => f ρ' H' d x σ' S (s.trans st) q
  | stuck => exact f
theorem FinS.bind {r : Res α} {k : α → Hs → SRes} {Q : β → Hp → Prop} (E : EnvR C.K (Fz ρ h H) ρ env σ) (F : FinS C W ρ h H (r.sb env k) D)
    (kk : ∀ (v : α) (h1 : Hs) (ρ1 : Pl) (H1 : Hp) (x : β), Hst C ρ1 h1 H1 → Step ρ h H ρ1 h1 H1 → Rl (Fz ρ1 h1 H1) ρ1 v x → FinS C W ρ1 h1 H1 (k v h1) D → Q x H1) : Fin C (at_ W σ) Rl ρ h H r Q := by
  cases r with
  | ok a h' => exact fun ρ' H' b S st q => kk a h' ρ' H' b S st q (FinS.rebase (show FinS C W ρ h H (k a h') D from F) st)
  | err c t h' => exact fun ρ' H' d x S st e q => F ρ' H' d x σ S st (E.step st) e q
  | stuck => exact F
end
/-- the slots but for these are as they were -/
def Off (own : List Nat) (σ σ' : L2.St) : Prop := σ'.length = σ.length ∧ ∀ i, i ∉ own → σ'[i]? = σ[i]?
theorem Off.refl {own : List Nat} {σ : L2.St} : Off own σ σ := ⟨rfl, fun _ _ => rfl⟩
theorem Off.trans {own : List Nat} {σ σ1 σ2 : L2.St} (a : Off own σ σ1) (b : Off own σ1 σ2) : Off own σ σ2 := ⟨b.1.trans a.1, fun i h => (b.2 i h).trans (a.2 i h)⟩
section
variable (X : Cx) (tb : List (Addr × Str)) (W : WX)
def TSI (g : SM) : TS := fun D σ H => ∃ ρ env h, Hst (sur X tb) ρ h H ∧ EnvR X.K (Fz ρ h H) ρ env σ ∧ FinS (sur X tb) W ρ h H (g env h) D
def TGI (own : List Nat) (f : RV → Ev → Hs → Option Ev) : TG := fun v σ H Q => ∃ ρ env h rv, Hst (sur X tb) ρ h H ∧ EnvR X.K (Fz ρ h H) ρ env σ ∧ RepV X.K (Fz ρ h H) ρ rv v ∧
  match f rv env h with
  | some env' => ∀ σ', EnvR X.K (Fz ρ h H) ρ env' σ' → Off own σ σ' → Q σ' H
  | none => False
def TGsI (own : List Nat) (f : List T → Ev → Hs → Option Ev) : TGs := fun vs σ H Q => ∃ ρ env h ts, Hst (sur X tb) ρ h H ∧ EnvR X.K (Fz ρ h H) ρ env σ ∧ Reps X.K (Fz ρ h H) ts vs ∧
  match f ts env h with
  | some env' => ∀ σ', EnvR X.K (Fz ρ h H) ρ env' σ' → Off own σ σ' → Q σ' H
  | none => False
end
/-! ### the machine's statements -/
def sNext : SM := fun env h => .next env h
def sSeq (a b : SM) : SM := fun env h => (a env h).then b
def aName (i : Nat) : RV → Ev → Hs → Option Ev := fun v env _ => some (env.set i (some v))
def aNil : List T → Ev → Hs → Option Ev
  | [], env, _ => some env
  | _, _, _ => none
def aCons (f : RV → Ev → Hs → Option Ev) (g : List T → Ev → Hs → Option Ev) : List T → Ev → Hs → Option Ev
  | t :: ts, env, h => (f (.t t) env h).bind fun env' => g ts env' h
  | [], _, _ => none
def aTup (n : Nat) (g : List T → Ev → Hs → Option Ev) : RV → Ev → Hs → Option Ev := fun v env h => match look h v with
  | some (.tup ts) => if ts.length = n then g ts env h else none
  | _ => none
def sAsg (f : RV → Ev → Hs → Option Ev) (e : Ev → M RV) : SM := fun env h => (e env h).sb env fun v h1 => match f v env h1 with
  | some env' => .next env' h1
  | none => .stuck
def sEx (e : Ev → M RV) : SM := fun env h => (e env h).sb env fun _ h1 => .next env h1
def sRet (e : Ev → M RV) : SM := fun env h => (e env h).sb env fun v h1 => .ret v h1
def sRetN : SM := fun _ h => .ret (.t .non) h
def sIf (c : Ev → M Bool) (a b : SM) : SM := fun env h => (c env h).sb env fun k h1 => if k = true then a env h1 else b env h1
def sBrk : SM := fun env h => .brk env h
def sCnt : SM := fun env h => .cnt env h
def sPar (is : List Nat) (es : Ev → M (List RV)) : SM := fun env h => (es env h).sb env fun vs h1 => match is, vs with
  | [i, j], [v, w] => .next ((env.set i (some v)).set j (some w)) h1
  | _, _ => .stuck
section
variable {X : Cx} {tb : List (Addr × Str)} {W : WX}
theorem pss_nil_ : PSs X [] (TSI X tb W sNext) := by
  refine ⟨fun pins s σ H D I hq => pss_nil.run pins s σ H D I ?_⟩
  obtain ⟨ρ, env, h, S, E, F⟩ := hq
  exact F ρ H σ S Step.refl E
theorem then_fin {C : Sur} {ρ : Pl} {h : Hs} {H : Hp} {r : SRes} {k : SM} {D : Ends} {X' : Cx} (hC : C = sur X' tb) (F : FinS C W ρ h H (r.then k) D) : FinS C W ρ h H r { D with nx := TSI X' tb W k D } := by
  subst hC
  cases r with
  | next env' h' => exact fun ρ' H' σ' S st q => ⟨ρ', env', h', S, q, FinS.rebase (show FinS _ W ρ h H (k env' h') D from F) st⟩
  | ret v h' => exact F
  | brk env' h' => exact F
  | cnt env' h' => exact F
  | err c t env' h' => exact F
  | stuck => exact F
theorem pss_cons_ {st : Stmt} {rest : List Stmt} {a b : SM} (h1 : PS X st (TSI X tb W a)) (h2 : PSs X rest (TSI X tb W b)) : PSs X (st :: rest) (TSI X tb W (sSeq a b)) := by
  refine ⟨fun pins s σ H D I hq => (pss_cons h1 h2).run pins s σ H D I ?_⟩
  obtain ⟨ρ, env, h, S, E, F⟩ := hq
  exact ⟨ρ, env, h, S, E, then_fin rfl F⟩
theorem pg_name_ {own : List Nat} {i : Nat} {x : Str} {pos : Pos} (ho : i ∈ own) (hN : X.N.Nodup) (hi : X.N[i]? = some x) (hx : Loc X.env.scope x) (hf : X.fn x = true ∨ X.env.scope.names.lookup x = some .local) : PG X (.Name x pos) (TGI X tb own (aName i)) := by
  refine ⟨fun pins s σ H v u Q I r hq => (pg_name hN hi hx hf).run pins s σ H v u Q I r ?_⟩
  obtain ⟨ρ, env, h, rv, S, E, rr, F⟩ := hq
  exact F _ (E.set i rr) ⟨by rw [List.length_set], fun j hj => List.getElem?_set_ne (fun z : i = j => hj (z ▸ ho))⟩
theorem pgs_nil_ {own : List Nat} : PGs X [] (TGsI X tb own aNil) := by
  refine ⟨fun pins s σ H vs us Q I r hq => pgs_nil.run pins s σ H vs us Q I r ?_⟩
  obtain ⟨ρ, env, h, ts, S, E, rr, F⟩ := hq
  cases rr with
  | nil => exact ⟨rfl, F σ E Off.refl⟩
  | cons _ _ => exact F.elim
theorem pgs_cons_ {own : List Nat} {e : Expr} {es : List Expr} {f : RV → Ev → Hs → Option Ev} {g : List T → Ev → Hs → Option Ev} (h1 : PG X e (TGI X tb own f)) (h2 : PGs X es (TGsI X tb own g))
    (hs : (assignEach (e :: es) X.env).map (·.2) = assign e X.env :: (assignEach es X.env).map (·.2)) : PGs X (e :: es) (TGsI X tb own (aCons f g)) := by
  refine ⟨fun pins s σ H vs us Q I r hq => (pgs_cons h1 h2 hs).run pins s σ H vs us Q I r ?_⟩
  obtain ⟨ρ, env, h, ts, S, E, rr, F⟩ := hq
  cases rr with
  | nil => exact F.elim
  | cons r1 rs =>
    refine ⟨_, _, rfl, ρ, env, h, _, S, E, (show RepV X.K (Fz ρ h H) ρ (.t _) _ from r1), ?_⟩
    rename_i t v ts vs
    simp only [aCons] at F
    cases hf : f (.t t) env h with
    | none => rw [hf] at F; exact F.elim
    | some env' =>
      rw [hf] at F
      refine fun σ' E' of => ⟨ρ, env', h, _, S, E', rs, ?_⟩
      simp only [Option.bind_some] at F
      split
      · rename_i env'' e''
        rw [e''] at F
        exact fun σ'' E'' of' => F σ'' E'' (of.trans of')
      · rename_i e''
        rw [e''] at F
        exact F
theorem pg_tup_ {own : List Nat} {es : List Expr} {k n : Nat} {pos : Pos} {g : List T → Ev → Hs → Option Ev} (hc : X.calm = true) (h : PGs X es (TGsI X tb own g)) (hn : (assignEach es X.env).length = n) (hst : (assignEach es X.env).findIdx? (·.1) = none) : PG X (.Tuple es k pos) (TGI X tb own (aTup n g)) := by
  refine ⟨fun pins s σ H v u Q I r hq => (pg_tup hc h hn hst).run pins s σ H v u Q I r ?_⟩
  obtain ⟨ρ, env, h, rv, S, E, rr, F⟩ := hq
  unfold aTup at F
  split at F
  case h_2 => exact F.elim
  case h_1 env' hf =>
    split at hf
    · rename_i ts el
      split at hf
      · rename_i hl
        obtain ⟨a, xs, rfl, hs, rs⟩ := look_repsT S rr el
        refine ⟨a, xs, rfl, sqT_same Fz.le hs, by rw [← rs.len]; exact hl, ρ, env, h, ts, S, E, rs, ?_⟩
        rw [hf]
        exact F
      · cases hf
    · cases hf
theorem asg_fin {own : List Nat} {f : RV → Ev → Hs → Option Ev} {g : Ev → M RV} {D : Ends} {σ : L2.St} {H : Hp} {ρ : Pl} {env : Ev} {h : Hs} (E : EnvR X.K (Fz ρ h H) ρ env σ) (F : FinS (sur X tb) W ρ h H (sAsg f g env h) D) :
    Fin (sur X tb) (at_ W σ) (RepV X.K) ρ h H (g env h) fun x H1 => TGI X tb own f x σ H1 D.nx := by
  refine FinS.bind (C := sur X tb) E F fun v h1 ρ1 H1 x S1 st1 r1 F1 => ⟨ρ1, env, h1, v, S1, E.step st1, r1, ?_⟩
  cases hf : f v env h1 with
  | none => rw [hf] at F1; exact F1.elim
  | some env' =>
    rw [hf] at F1
    exact fun σ' E' _ => F1 ρ1 H1 σ' S1 Step.refl E'
theorem ps_set_ {i : Nat} {x : Str} {e : Expr} {pos pos' : Pos} {g : Ev → M RV} (hN : X.N.Nodup) (hi : X.N[i]? = some x) (hx : Loc X.env.scope x) (he : PE X e (TI X tb W g)) (hs : swapsWith e (some (.Name x pos')) pos.line X.env = pure false) (hf : X.fn x = true ∨ X.env.scope.names.lookup x = some .local) :
    PS X (.Assign [.Name x pos'] e pos) (TSI X tb W (sAsg (aName i) g)) := by
  refine ⟨fun pins s σ H D I hq => (ps_set hN hi hx he hs hf).run pins s σ H D I ?_⟩
  obtain ⟨ρ, env, h, S, E, F⟩ := hq
  refine ⟨ρ, env, h, S, E, (asg_fin (own := [i]) E F).mono fun x H1 q => ?_⟩
  obtain ⟨ρ1, env1, h1, rv, S1, E1, r1, F1⟩ := q
  exact F1 _ (E1.set i r1) ⟨by rw [List.length_set], fun j hj => List.getElem?_set_ne (fun z : i = j => hj (List.mem_singleton.mpr z.symm))⟩
theorem ps_asg_ {own : List Nat} {tg e : Expr} {pos : Pos} {f : RV → Ev → Hs → Option Ev} {g : Ev → M RV} (he : PE X e (TI X tb W g)) (hg : PG X tg (TGI X tb own f)) (hs : swapsWithSole [tg] e pos.line X.env = pure false) (hw : swappedStores [tg] e X.env = pure none)
    (h1 : (assignEach [tg] X.env).map (·.2) = [assign tg X.env]) : PS X (.Assign [tg] e pos) (TSI X tb W (sAsg f g)) := by
  refine ⟨fun pins s σ H D I hq => (ps_asg he hg hs hw h1).run pins s σ H D I ?_⟩
  obtain ⟨ρ, env, h, S, E, F⟩ := hq
  exact ⟨ρ, env, h, S, E, asg_fin E F⟩
theorem ps_par_ {i j : Nat} {x y : Str} {a b : Expr} {gs : Ev → M (List RV)} {px py pt pos : Pos} {kt k2 pt2} (hc : X.calm = true) (hN : X.N.Nodup) (hi : X.N[i]? = some x) (hj : X.N[j]? = some y) (hij : i ≠ j)
    (hx : X.env.scope.names.lookup x = some .local) (hy : X.env.scope.names.lookup y = some .local) (ha : PA X [a, b] (TAI X tb W gs))
    (hw : swappedStores [.Tuple [.Name x px, .Name y py] kt pt] (.Tuple [a, b] k2 pt2) X.env = pure (some [x, y]))
    (hs : swapsWithSole [.Tuple [.Name x px, .Name y py] kt pt] (.Tuple [a, b] k2 pt2) pos.line X.env = pure false) :
    PS X (.Assign [.Tuple [.Name x px, .Name y py] kt pt] (.Tuple [a, b] k2 pt2) pos) (TSI X tb W (sPar [i, j] gs)) := by
  refine ⟨fun pins s σ H D I hq => (ps_par hc hN hi hj hij hx hy ha hw hs).run pins s σ H D I ?_⟩
  obtain ⟨ρ, env, h, S, E, F⟩ := hq
  refine ⟨ρ, env, h, S, E, FinS.bind (C := sur X tb) E F fun vs h1 ρ1 H1 xs S1 st1 r1 F1 => ?_⟩
  split at F1
  · rename_i v w e1
    cases e1
    cases r1 with
    | cons r1 rs =>
      cases rs with
      | cons r2 rs =>
        cases rs
        exact ⟨_, _, rfl, F1 ρ1 H1 _ S1 Step.refl (((E.step st1).set _ r1).set _ r2)⟩
  · exact F1.elim
theorem ps_ex_ {e : Expr} {pos : Pos} {g : Ev → M RV} (he : PE X e (TI X tb W g)) (hs : swapsWith e none pos.line X.env = pure false) : PS X (.Expr e pos) (TSI X tb W (sEx g)) := by
  refine ⟨fun pins s σ H D I hq => (ps_expr he hs).run pins s σ H D I ?_⟩
  obtain ⟨ρ, env, h, S, E, F⟩ := hq
  exact ⟨ρ, env, h, S, E, FinS.bind (C := sur X tb) E F fun vs h1 ρ1 H1 xs S1 st1 r1 F1 => F1 ρ1 H1 σ S1 Step.refl (E.step st1)⟩
theorem ps_ret_ {e : Expr} {pos : Pos} {g : Ev → M RV} (he : PE X e (TI X tb W g)) : PS X (.Return (some e) pos) (TSI X tb W (sRet g)) := by
  refine ⟨fun pins s σ H D I hq => (ps_ret he).run pins s σ H D I ?_⟩
  obtain ⟨ρ, env, h, S, E, F⟩ := hq
  exact ⟨ρ, env, h, S, E, FinS.bind (C := sur X tb) E F fun v h1 ρ1 H1 xs S1 st1 r1 F1 => F1 ρ1 H1 _ S1 Step.refl r1⟩
theorem ps_retN_ {pos : Pos} : PS X (.Return none pos) (TSI X tb W sRetN) := by
  refine ⟨fun pins s σ H D I hq => ps_retN.run pins s σ H D I ?_⟩
  obtain ⟨ρ, env, h, S, E, F⟩ := hq
  exact F ρ H _ S Step.refl .non
theorem ps_if_ {c : Expr} {a b : List Stmt} {pos : Pos} {gc : Ev → M Bool} {ga gb : SM} (hc : PT X c (TTI X tb W gc)) (ha : PSs X a (TSI X tb W ga)) (hb : PSs X b (TSI X tb W gb)) : PS X (.If c a b pos) (TSI X tb W (sIf gc ga gb)) := by
  refine ⟨fun pins s σ H D I hq => (ps_if hc ha hb).run pins s σ H D I ?_⟩
  obtain ⟨ρ, env, h, S, E, F⟩ := hq
  refine ⟨ρ, env, h, S, E, FinS.bind (C := sur X tb) E F fun k h1 ρ1 H1 x S1 st1 r1 F1 => ?_⟩
  cases r1
  cases k with
  | true => exact ⟨ρ1, env, h1, S1, E.step st1, F1⟩
  | false => exact ⟨ρ1, env, h1, S1, E.step st1, F1⟩
theorem ps_pass_ {pos : Pos} : PS X (.Pass pos) (TSI X tb W sNext) := by
  refine ⟨fun pins s σ H D I hq => ps_pass.run pins s σ H D I ?_⟩
  obtain ⟨ρ, env, h, S, E, F⟩ := hq
  exact F ρ H σ S Step.refl E
theorem ps_doc_ {x j pos pos'} : PS X (.Expr (.Constant (.str x) j pos) pos') (TSI X tb W sNext) := by
  refine ⟨fun pins s σ H D I hq => ps_doc.run pins s σ H D I ?_⟩
  obtain ⟨ρ, env, h, S, E, F⟩ := hq
  exact F ρ H σ S Step.refl E
theorem ps_brk_ {pos : Pos} : PS X (.Break pos) (TSI X tb W sBrk) := by
  refine ⟨fun pins s σ H D I hq => ps_break.run pins s σ H D I ?_⟩
  obtain ⟨ρ, env, h, S, E, F⟩ := hq
  exact F ρ H σ S Step.refl E
theorem ps_cnt_ {pos : Pos} : PS X (.Continue pos) (TSI X tb W sCnt) := by
  refine ⟨fun pins s σ H D I hq => ps_continue.run pins s σ H D I ?_⟩
  obtain ⟨ρ, env, h, S, E, F⟩ := hq
  exact F ρ H σ S Step.refl E
end
end Py

set_option Elab.async false
set_option linter.all false
set_option maxRecDepth 100000
set_option maxHeartbeats 4000000
namespace Py
open PySem PySem.Spec PyProof.Rows L2 Lw LamX
/-- an iterator that goes over these trees -/
def RlIt (C : Sur) (F : Hp) (ts : List T) (J : It) : Prop := ∃ Y : Nat → Hp → V → Hp → Prop, Walk J ts.length (fun H' => ∃ ρ' h', Same F (Fz ρ' h' H')) Y ∧
  ∀ (i : Nat) (ρ' : Pl) (h' : Hs) (H' : Hp) (x : V) (H'' : Hp), Hst C ρ' h' H' → Same F (Fz ρ' h' H') → Y i H' x H'' → Same H' H'' ∧ ∃ t, ts[i]? = some t ∧ Rep C.K (Fz ρ' h' H'') t x
def TII (X : Cx) (tb : List (Addr × Str)) (W : WX) (g : Ev → M (List T)) : L2.TI := fun σ H R => ∃ ρ env h, Hst (sur X tb) ρ h H ∧ EnvR X.K (Fz ρ h H) ρ env σ ∧ Fin (sur X tb) (at_ W σ) (fun F _ ts J => RlIt (sur X tb) F ts J) ρ h H (g env h) R
/-- over the items, one turn after another -/
def forL (step : T → SM) : List T → SM
  | [], env, h => .next env h
  | t :: ts, env, h => match step t env h with
    | .next env' h' => forL step ts env' h'
    | .cnt env' h' => forL step ts env' h'
    | .brk env' h' => .next env' h'
    | r => r
def turn (f : RV → Ev → Hs → Option Ev) (b : SM) (t : T) : SM := fun env h => match f (.t t) env h with
  | some env' => b env' h
  | none => .stuck
def sFor (it : Ev → M (List T)) (f : RV → Ev → Hs → Option Ev) (b : SM) : SM := fun env h => (it env h).sb env fun ts h1 => forL (turn f b) ts env h1
section
variable {X : Cx} {tb : List (Addr × Str)} {W : WX}
theorem for_core {own : List Nat} {J : It} {ts : List T} {f : RV → Ev → Hs → Option Ev} {b : SM} {D : Ends} {F0 : Hp} (R : RlIt (sur X tb) F0 ts J) {σ : L2.St} {H : Hp} {ρ : Pl} {env : Ev} {h : Hs} (S : Hst (sur X tb) ρ h H) (E : EnvR X.K (Fz ρ h H) ρ env σ) (sm : Same F0 (Fz ρ h H))
    (F : FinS (sur X tb) W ρ h H (forL (turn f b) ts env h) D) :
    ∃ W' : Nat → Nat → L2.St → Hp → Prop, (∃ m, W' 0 m σ H) ∧ ∀ i m σ H, W' i m σ H → (J.stop i H ∧ D.nx σ H) ∨ (J.go i H ∧ ∃ N : L2.St → Hp → Prop, (∀ σ' H', N σ' H' → ∃ m', m' < m ∧ W' (i + 1) m' σ' H') ∧
      ∀ x H', J.yld i H x H' → TGI X tb own f x σ H' fun σ2 H2 => TSI X tb W b { D with nx := N, ct := N, bk := D.nx } σ2 H2) := by
  obtain ⟨Y, w, hy⟩ := R
  let P : Nat → L2.St → Hp → Prop := fun i σ H => ∃ ρ env h, Hst (sur X tb) ρ h H ∧ EnvR X.K (Fz ρ h H) ρ env σ ∧ Same F0 (Fz ρ h H) ∧ FinS (sur X tb) W ρ h H (forL (turn f b) (ts.drop i) env h) D
  refine ⟨fun i m σ H => m = ts.length - i ∧ i ≤ ts.length ∧ P i σ H, ⟨ts.length, by simp, Nat.zero_le _, ρ, env, h, S, E, sm, by simpa using F⟩, ?_⟩
  rintro i m σ H ⟨rfl, hi, ρ, env, h, S, E, sm, F⟩
  by_cases hlt : i < ts.length
  · refine .inr ⟨w.goes i H hlt ⟨ρ, h, sm⟩, P (i + 1), fun σ' H' p => ⟨ts.length - (i + 1), by omega, rfl, hlt, p⟩, fun x H' y => ?_⟩
    obtain ⟨sH, t, et, rt⟩ := hy i ρ h H x H' S sm (w.yields i H x H' hlt ⟨ρ, h, sm⟩ y)
    obtain ⟨S1, st1⟩ := S.grow sH
    have ed : ts.drop i = t :: ts.drop (i + 1) := by
      rw [List.drop_eq_getElem_cons hlt]
      rw [List.getElem?_eq_getElem hlt] at et
      rw [Option.some.inj et]
    rw [ed] at F
    have F' := F.rebase st1
    unfold forL turn at F'
    refine ⟨ρ, env, h, .t t, S1, E.step st1, rt, ?_⟩
    cases hf : f (.t t) env h with
    | none => rw [hf] at F'; exact F'.elim
    | some env' =>
      rw [hf] at F'
      refine fun σ' E' _ => ⟨ρ, env', h, S1, E', ?_⟩
      have sm1 : Same F0 (Fz ρ h H') := sm.trans st1.same
      simp only at F'
      cases hb : b env' h with
      | next e2 h2 =>
        rw [hb] at F'
        exact fun ρ2 H2 σ2 S2 st2 E2 => ⟨ρ2, e2, h2, S2, E2, sm1.trans st2.same, FinS.rebase (show FinS _ W ρ h H' (forL (turn f b) (ts.drop (i + 1)) e2 h2) D from F') st2⟩
      | cnt e2 h2 =>
        rw [hb] at F'
        exact fun ρ2 H2 σ2 S2 st2 E2 => ⟨ρ2, e2, h2, S2, E2, sm1.trans st2.same, FinS.rebase (show FinS _ W ρ h H' (forL (turn f b) (ts.drop (i + 1)) e2 h2) D from F') st2⟩
      | brk e2 h2 => rw [hb] at F'; exact F'
      | ret v h2 => rw [hb] at F'; exact F'
      | err c v e2 h2 => rw [hb] at F'; exact F'
      | stuck => rw [hb] at F'; exact F'
  · have e : i = ts.length := by omega
    subst e
    refine .inl ⟨w.stops H ⟨ρ, h, sm⟩, ?_⟩
    rw [List.drop_length] at F
    exact F ρ H σ S Step.refl E
theorem ps_for_ {own : List Nat} {tg iter : Expr} {body : List Stmt} {pos : Pos} {gi : Ev → M (List T)} {f : RV → Ev → Hs → Option Ev} {gb : SM} (hp : PassesOwn (model X.prog X.w) X.A X.env X.xe) (hc : X.calm = true) (hi : PI X tg iter (TII X tb W gi)) (hg : PG X tg (TGI X tb own f)) (hb : PSs X body (TSI X tb W gb))
    (hs : ∀ x, foldedSetIterable iter X.env x = pure x) : PS X (.For tg iter body [] pos) (TSI X tb W (sFor gi f gb)) := by
  refine ⟨fun pins s σ H D I hq => (ps_for hp hc hi hg hb hs).run pins s σ H D I ?_⟩
  obtain ⟨ρ, env, h, S, E, F⟩ := hq
  exact ⟨ρ, env, h, S, E, FinS.bind (C := sur X tb) E F fun ts h1 ρ1 H1 J S1 st1 R F1 => for_core R S1 (E.step st1) (Same.refl _) F1⟩
/-! ### what is walked -/
/-- a list or a tuple that is a tree from now on -/
def iSeq (g : Ev → M RV) : Ev → M (List T) := fun env h => (g env h).bind fun v h1 => (toT v h1).bind fun t h2 => match seqOf t with
  | some ts => .ok ts h2
  | none => match t with
    | .str z => .ok (z.cps.toList.map fun c => .str ⟨#[c]⟩) h2
    | _ => .stuck
theorem rlIt_list {C : Sur} {F : Hp} {a : Addr} {ts : List T} {xs : List V} (hq : ∀ H', (∃ ρ' h', Same F (Fz ρ' h' H')) → SqL C.K H' a xs) (rs : Reps C.K F ts xs) : RlIt C F ts (Itl C.K a) := by
  refine ⟨YAt xs, ?_, fun i ρ' h' H' x H'' S sm y => ?_⟩
  · rw [rs.len]
    exact walk_list.mono (fun H' h => hq H' h) fun i H x H' _ _ y => y
  · obtain ⟨rfl, e⟩ := y
    obtain ⟨t, e1, r⟩ := rs.getV e
    exact ⟨Same.refl _, t, e1, Rep.same sm r⟩
theorem rlIt_tup {C : Sur} {F : Hp} {a : Addr} {ts : List T} {xs : List V} (hq : ∀ H', (∃ ρ' h', Same F (Fz ρ' h' H')) → SqT C.K H' a xs) (rs : Reps C.K F ts xs) : RlIt C F ts (Itt C.K a) := by
  refine ⟨YAt xs, ?_, fun i ρ' h' H' x H'' S sm y => ?_⟩
  · rw [rs.len]
    exact walk_tup.mono (fun H' h => hq H' h) fun i H x H' _ _ y => y
  · obtain ⟨rfl, e⟩ := y
    obtain ⟨t, e1, r⟩ := rs.getV e
    exact ⟨Same.refl _, t, e1, Rep.same sm r⟩
theorem rlIt_str {C : Sur} {F : Hp} {z : Str} : RlIt C F (z.cps.toList.map fun c => T.str ⟨#[c]⟩) (Its z) := by
  refine ⟨_, (walk_str (z := z)).mono (n := z.cps.size) (fun _ _ => trivial) (fun i H x H' _ _ y => y) |> fun w => (by rw [List.length_map, Array.length_toList]; exact w), fun i ρ' h' H' x H'' S sm y => ?_⟩
  obtain ⟨rfl, c, e, rfl⟩ := y
  exact ⟨Same.refl _, .str ⟨#[c]⟩, by rw [List.getElem?_map, Array.getElem?_toList, e]; rfl, .str _⟩
/-- an iterator over a list, a tuple or a text, whichever it is -/
theorem pi_any {tg e : Expr} {te : TE} (he : PE X e te) : PI X tg e (fun σ H R => te σ H fun x H1 => (∃ a xs, x = .ref a ∧ SqL X.K H1 a xs ∧ R (Itl X.K a) H1) ∨ (∃ a xs, x = .ref a ∧ SqT X.K H1 a xs ∧ R (Itt X.K a) H1) ∨ ∃ z, x = .str z ∧ R (Its z) H1) := by
  refine ⟨fun pins s σ H R I h => ?_⟩
  refine thn (he.run pins s σ H _ I h) fun v s1 ⟨x, H1, I1, r1, q1⟩ => ?_
  rcases q1 with ⟨a, xs, e, hq, q⟩ | ⟨a, xs, e, hq, q⟩ | ⟨z, e, q⟩
  · subst e
    cases r1
    obtain ⟨its, rv, p, hz⟩ := I1.list hq
    refine wpAny_pyIter_list p.isList ?_
    refine ⟨s1.heap.objs.size, [s1.heap.objs.size], _, _, H1, rfl, I1.kept (t' := s1.toks) fun b o e => Heap.get?_push_of_some _ e, turn_list a _, ⟨_, Heap.get?_push_size _ rfl, rfl, rfl⟩, fun b hb => ?_, q⟩
    have e : b = s1.heap.objs.size := by simpa using hb
    subst e
    exact I1.fpOk (Nat.le_refl _) (I1.hok.fresh (Nat.le_refl _))
  · subst e
    cases r1
    obtain ⟨its, rv, p, hz⟩ := I1.tuple hq
    refine wpAny_pyIter_tuple (show s1.heap.IsTuple a its.toArray from p) ?_
    refine ⟨s1.heap.objs.size, [s1.heap.objs.size], _, _, H1, rfl, I1.kept (t' := s1.toks) fun b o e => Heap.get?_push_of_some _ e, turn_tuple a _, ⟨_, Heap.get?_push_size _ rfl, rfl, rfl⟩, fun b hb => ?_, q⟩
    have e : b = s1.heap.objs.size := by simpa using hb
    subst e
    exact I1.fpOk (Nat.le_refl _) (I1.hok.fresh (Nat.le_refl _))
  · subst e
    obtain ⟨t, rfl⟩ := r1
    cases ha : z.cps.all (· < 128)
    · exact wpAny_pyIter_wide ha (pi_one (tk := s1.toks) I1 _ (turn_str _ z t "str_iterator" (.inr rfl)) ⟨_, Heap.get?_push_size _ rfl, rfl, rfl⟩ q)
    · exact wpAny_pyIter_ascii ha (pi_one (tk := s1.toks) I1 _ (turn_str _ z t "str_ascii_iterator" (.inl rfl)) ⟨_, Heap.get?_push_size _ rfl, rfl, rfl⟩ q)
theorem pi_seq_ {tg e : Expr} {g : Ev → M RV} (he : PE X e (TI X tb W g)) : PI X tg e (TII X tb W (iSeq g)) := by
  refine ⟨fun pins s σ H R I hq => (pi_any he).run pins s σ H R I ?_⟩
  obtain ⟨ρ, env, h, S, E, F⟩ := hq
  refine ⟨ρ, env, h, S, E, F.bind fun v h1 ρ1 H1 x S1 st1 r1 F1 => ?_⟩
  obtain ⟨t, h2, S2, st2, r2, F2⟩ := toT_fin S1 r1 F1
  have up : ∀ {a : Addr} {xs : List V}, SqL X.K (Fz ρ1 h2 H1) a xs → ∀ H', (∃ ρ' h', Same (Fz ρ1 h2 H1) (Fz ρ' h' H')) → SqL X.K H' a xs := fun q H' ⟨ρ', h', sm⟩ => Same.seq Fz.le (sm.seq q)
  have upT : ∀ {a : Addr} {xs : List V}, SqT X.K (Fz ρ1 h2 H1) a xs → ∀ H', (∃ ρ' h', Same (Fz ρ1 h2 H1) (Fz ρ' h' H')) → SqT X.K H' a xs := fun q H' ⟨ρ', h', sm⟩ => sqT_same Fz.le (sqT_same sm q)
  cases r2 with
  | tup hs rs => exact .inr (.inl ⟨_, _, rfl, sqT_same Fz.le hs, F2.ok S2 (rlIt_tup (upT hs) rs)⟩)
  | lst hs rs => exact .inl ⟨_, _, rfl, SqL.of (Fz.le _ _ hs), F2.ok S2 (rlIt_list (up (SqL.of hs)) rs)⟩
  | scr hs rs => exact .inl ⟨_, _, rfl, Same.seq Fz.le hs, F2.ok S2 (rlIt_list (up hs) rs)⟩
  | str z => exact .inr (.inr ⟨z, rfl, F2.ok S2 rlIt_str⟩)
  | _ => exact F2.elim
end
end Py

set_option Elab.async false
set_option linter.all false
set_option maxRecDepth 100000
set_option maxHeartbeats 4000000
namespace Py
open PySem PySem.Spec PyProof.Rows L2 Lw LamX
/-! ### range, enumerate, zip -/
def rngT (i j : Int) : List T := (List.range (j - i).toNat).map fun k => .int (i + (k : Nat))
def inRg (i : Int) : Bool := decide (-(2 ^ 62) ≤ i) && decide (i < 2 ^ 62)
theorem inRg_ok {i : Int} (h : inRg i = true) : -(2 ^ 62) ≤ i ∧ i < 2 ^ 62 := by
  unfold inRg at h
  simpa only [Bool.and_eq_true, decide_eq_true_eq] using h
def iRng1 (gs : Ev → M (List RV)) : Ev → M (List T) := fun env h => (gs env h).bind fun vs h1 => match vs with
  | [.t (.int j)] => if inRg j = true then .ok (rngT 0 j) h1 else .stuck
  | _ => .stuck
def iRng2 (gs : Ev → M (List RV)) : Ev → M (List T) := fun env h => (gs env h).bind fun vs h1 => match vs with
  | [.t (.int i), .t (.int j)] => if (inRg i && inRg j) = true then .ok (rngT i j) h1 else .stuck
  | _ => .stuck
/-- pairs of places and items -/
def enumT : Nat → List T → List T
  | _, [] => []
  | i, t :: ts => .tup [.int (i : Nat), t] :: enumT (i + 1) ts
theorem enumT_get {i : Nat} {t : T} : ∀ {ts : List T} {k : Nat}, ts[i]? = some t → (enumT k ts)[i]? = some (.tup [.int ((k + i : Nat) : Int), t])
  | [], _, e => by cases e
  | u :: ts, k, e => by
    cases i with
    | zero => cases e; rfl
    | succ i =>
      have ih := enumT_get (i := i) (ts := ts) (k := k + 1) e
      show (enumT (k + 1) ts)[i]? = _
      rw [ih, show k + 1 + i = k + (i + 1) by omega]
theorem enumT_len : ∀ {ts : List T} {k : Nat}, (enumT k ts).length = ts.length
  | [], _ => rfl
  | _ :: ts, k => by
    show (enumT (k + 1) ts).length + 1 = _
    rw [enumT_len]; rfl
def iEnumA (gs : Ev → M (List RV)) : Ev → M (List T) := fun env h => (gs env h).bind fun vs h1 => match vs with
  | [v] => (toT v h1).bind fun t h2 => match seqOf t with
    | some ts => .ok (enumT 0 ts) h2
    | none => .stuck
  | _ => .stuck
def zipT (ts us : List T) : List T := (ts.zip us).map fun p => .tup [p.1, p.2]
def iZipM (gs : Ev → M (List RV)) : Ev → M (List T) := fun env h => (gs env h).bind fun vs h1 => (toTs vs h1).bind fun ts h2 => match ts with
  | [.tup xs, .tup ys] => .ok (zipT xs ys) h2
  | [t, u] => match listOf t, listOf u with
    | some xs, some ys => .ok (zipT xs ys) h2
    | _, _ => .stuck
  | _ => .stuck
section
variable {X : Cx} {tb : List (Addr × Str)} {W : WX}
theorem rlIt_rng {C : Sur} {F : Hp} {i j : Int} : RlIt C F (rngT i j) (Itr i (j - i).toNat) := by
  refine ⟨fun k H x H' => k < (j - i).toNat ∧ YFn (fun k => .int (i + k)) k H x H', ?_, fun k ρ' h' H' x H'' S sm y => ?_⟩
  · unfold rngT
    rw [List.length_map, List.length_range]
    exact walk_range.mono (fun _ _ => trivial) fun i H x H' hi _ y => ⟨hi, y⟩
  · obtain ⟨hk, rfl, rfl⟩ := y
    exact ⟨Same.refl _, .int (i + (k : Nat)), by unfold rngT; rw [List.getElem?_map, List.getElem?_range hk]; rfl, .int _⟩
theorem pi_rng1_ {tg a : Expr} {p pos : Pos} {gs : Ev → M (List RV)} (hg : Gl X "range") (hm : X.mg "range" = none) (ha : PA X [a] (TAI X tb W gs)) (hs : starEach [a] X.env = [(false, eval a X.env)]) : PI X tg (.Call (.Name "range" p) [a] [] pos) (TII X tb W (iRng1 gs)) := by
  refine ⟨fun pins s σ H R I hq => (pi_range1 hg hm ha hs).run pins s σ H R I ?_⟩
  obtain ⟨ρ, env, h, S, E, F⟩ := hq
  refine ⟨ρ, env, h, S, E, F.bind fun vs h1 ρ1 H1 xs S1 st1 r1 F1 => ?_⟩
  split at F1
  · rename_i j
    cases r1 with
    | cons r1 rs =>
      cases rs
      cases r1
      split at F1
      · rename_i hr
        obtain ⟨h2, h3⟩ := inRg_ok hr
        have q := rlIt_rng (C := sur X tb) (F := Fz ρ1 h1 H1) (i := 0) (j := j)
        rw [Int.sub_zero] at q
        exact ⟨j, rfl, h2, h3, F1.ok S1 q⟩
      · exact F1.elim
  · exact F1.elim
theorem pi_rng2_ {tg a b : Expr} {p pos : Pos} {gs : Ev → M (List RV)} (hg : Gl X "range") (hm : X.mg "range" = none) (ha : PA X [a, b] (TAI X tb W gs)) (hs : starEach [a, b] X.env = [(false, eval a X.env), (false, eval b X.env)]) (hs2 : starEach [b] X.env = [(false, eval b X.env)]) :
    PI X tg (.Call (.Name "range" p) [a, b] [] pos) (TII X tb W (iRng2 gs)) := by
  refine ⟨fun pins s σ H R I hq => (pi_range2 hg hm ha hs hs2).run pins s σ H R I ?_⟩
  obtain ⟨ρ, env, h, S, E, F⟩ := hq
  refine ⟨ρ, env, h, S, E, F.bind fun vs h1 ρ1 H1 xs S1 st1 r1 F1 => ?_⟩
  split at F1
  · rename_i i j
    cases r1 with
    | cons r1 rs =>
      cases rs with
      | cons r2 rs =>
        cases rs
        cases r1
        cases r2
        split at F1
        · rename_i hr
          simp only [Bool.and_eq_true] at hr
          obtain ⟨h2, h3⟩ := inRg_ok hr.1
          obtain ⟨h4, h5⟩ := inRg_ok hr.2
          exact ⟨i, j, rfl, ⟨h2, h3, h4, h5⟩, F1.ok S1 rlIt_rng⟩
        · exact F1.elim
  · exact F1.elim
theorem pi_enumA {e : Expr} {ta : TA} {p pos tpos : Pos} {elts : List Expr} {kk : Nat} (hg : Gl X "enumerate") (hm : X.mg "enumerate" = none) (ha : PA X [e] ta) (hs : starEach [e] X.env = [(false, eval e X.env)]) :
    PI X (.Tuple elts kk tpos) (.Call (.Name "enumerate" p) [e] [] pos) (fun σ H R => ta σ H fun vs H1 => ∃ a xs, vs = [.ref a] ∧ ((SqL X.K H1 a xs ∧ R (Ite X.K a) H1) ∨ (SqT X.K H1 a xs ∧ R (IteT X.K a) H1))) := by
  refine ⟨fun pins s σ H R I h => ?_⟩
  refine Call_ (ld_blt I hg hm boot_enumerate (PyProof.Rows.callWith_type1 (thn (ha.run pos pins s σ H _ I h) fun us s1 ⟨vs, H1, I1, r1, q1⟩ => ?_) hs rfl))
  obtain ⟨a, xs, rfl, ⟨hq, q⟩ | ⟨hq, q⟩⟩ := q1
  · obtain ⟨u, rfl, ru⟩ := r1.one
    cases (show u = Value.ref a from ru)
    obtain ⟨its, rv, p', hz⟩ := I1.list hq
    refine call_enumerate_list p'.isList fun h' he hit hsz hk => wpAny_pyIter_enum he ?_
    have I2 : Inv X pins σ H1 { s1 with heap := h' } := I1.kept (t' := s1.toks) hk
    refine ⟨s1.heap.objs.size + 1, [s1.heap.objs.size + 1, s1.heap.objs.size], _, _, H1, rfl, I2, turn_enum a (s1.heap.objs.size + 1) s1.heap.objs.size, ⟨⟨.none, he⟩, hit, Nat.succ_ne_self _⟩, fun b hb => ?_, q⟩
    have e' : b = s1.heap.objs.size + 1 ∨ b = s1.heap.objs.size := by simpa using hb
    have hle : s1.heap.objs.size ≤ b := by
      rcases e' with z | z
      · rw [z]; exact Nat.le_add_right _ _
      · rw [z]; exact Nat.le_refl _
    exact I1.fpOk hle (I1.hok.fresh hle)
  · obtain ⟨u, rfl, ru⟩ := r1.one
    cases (show u = Value.ref a from ru)
    obtain ⟨its, rv, pt, hz⟩ := I1.tuple hq
    have hal : a < s1.heap.objs.size := by obtain ⟨o, ho, _⟩ := pt; exact Heap.lt_size ho
    refine call_enum1 (begins_tuple a its.toArray) pt fun h' he hi hk => wpAny_pyIter_enum he ?_
    have I2 : Inv X pins σ H1 { s1 with heap := h' } := I1.kept (t' := s1.toks) hk
    refine ⟨s1.heap.objs.size + 1, [s1.heap.objs.size + 1, s1.heap.objs.size], _, _, H1, rfl, I2, turn_enumT a (s1.heap.objs.size + 1) s1.heap.objs.size, ⟨⟨.none, he⟩, ⟨_, hi, rfl, rfl⟩, Nat.succ_ne_self _, Nat.ne_of_lt hal, Nat.ne_of_gt (Nat.lt_succ_of_lt hal)⟩, fun b hb => ?_, q⟩
    have big : s1.heap.objs.size ≤ b := by
      rcases List.mem_cons.mp hb with z | z
      · rw [z]; exact Nat.le_succ _
      · exact Nat.le_of_eq (List.mem_singleton.mp z).symm
    exact I1.fpOk big (I1.hok.fresh big)
/-- pairs yielded, new each time -/
theorem rlIt_pairs {C : Sur} {F : Hp} {J : It} {n : Nat} {G : Hp → Prop} {ps : List T} {xs ys : Nat → Option V} (w : Walk J n G (YPair xs ys)) (hn : n = ps.length) (hG : ∀ H', (∃ ρ' h', Same F (Fz ρ' h' H')) → G H')
    (hp : ∀ i x y, i < n → xs i = some x → ys i = some y → ∃ t u, ps[i]? = some (.tup [t, u]) ∧ Rep C.K F t x ∧ Rep C.K F u y) : RlIt C F ps J := by
  subst hn
  refine ⟨fun i H v H' => i < ps.length ∧ YPair xs ys i H v H', w.mono hG fun i H x H' hi _ y => ⟨hi, y⟩, fun i ρ' h' H' x H'' S sm y => ?_⟩
  obtain ⟨hi, T0, a, b, rfl, nT, rfl, e1, e2⟩ := y
  obtain ⟨t, u, e3, r1, r2⟩ := hp i a b hi e1 e2
  obtain ⟨S1, st⟩ := S.grow (same_new (o := .tup [a, b]) nT)
  exact ⟨same_new nT, _, e3, .tup (SqT.of (S.growF (same_new nT) upd_same nT fun _ z => by cases z)) (.cons (Rep.same (sm.trans st.same) r1) (.cons (Rep.same (sm.trans st.same) r2) .nil))⟩
theorem pi_enum_ {e : Expr} {p pos tpos : Pos} {elts : List Expr} {kk : Nat} {gs : Ev → M (List RV)} (hg : Gl X "enumerate") (hm : X.mg "enumerate" = none) (ha : PA X [e] (TAI X tb W gs)) (hs : starEach [e] X.env = [(false, eval e X.env)]) :
    PI X (.Tuple elts kk tpos) (.Call (.Name "enumerate" p) [e] [] pos) (TII X tb W (iEnumA gs)) := by
  refine ⟨fun pins s σ H R I hq => (pi_enumA hg hm ha hs).run pins s σ H R I ?_⟩
  obtain ⟨ρ, env, h, S, E, F⟩ := hq
  refine ⟨ρ, env, h, S, E, F.bind fun vs h1 ρ1 H1 xs S1 st1 r1 F1 => ?_⟩
  split at F1
  · rename_i v
    cases r1 with
    | cons r1 rs =>
      cases rs
      obtain ⟨t, h2, S2, st2, r2, F2⟩ := toT_fin S1 r1 F1
      have pr : ∀ {ts : List T} {vs : List V}, Reps X.K (Fz ρ1 h2 H1) ts vs → ∀ i x y, i < vs.length → (fun i => some (V.int (i : Nat))) i = some x → (fun i => vs[i]?) i = some y → ∃ t u, (enumT 0 ts)[i]? = some (.tup [t, u]) ∧ Rep X.K (Fz ρ1 h2 H1) t x ∧ Rep X.K (Fz ρ1 h2 H1) u y := fun rs i x y hi e1 e2 => by
        cases e1
        obtain ⟨u, e3, r⟩ := rs.getV e2
        refine ⟨.int (i : Nat), u, ?_, .int _, r⟩
        have q := enumT_get (k := 0) e3
        rw [Nat.zero_add] at q
        exact q
      cases r2 with
      | tup hs rs => exact ⟨_, _, rfl, .inr ⟨sqT_same Fz.le hs, F2.ok S2 (rlIt_pairs (C := sur X tb) walk_enumT (by rw [enumT_len, rs.len]) (fun H' ⟨ρ', h', sm⟩ => sqT_same Fz.le (sqT_same sm hs)) (pr rs))⟩⟩
      | lst hs rs => exact ⟨_, _, rfl, .inl ⟨SqL.of (Fz.le _ _ hs), F2.ok S2 (rlIt_pairs (C := sur X tb) walk_enum (by rw [enumT_len, rs.len]) (fun H' ⟨ρ', h', sm⟩ => SqL.of (Fz.le _ _ (sm _ _ hs))) (pr rs))⟩⟩
      | scr hs rs => exact ⟨_, _, rfl, .inl ⟨Same.seq Fz.le hs, F2.ok S2 (rlIt_pairs (C := sur X tb) walk_enum (by rw [enumT_len, rs.len]) (fun H' ⟨ρ', h', sm⟩ => Same.seq Fz.le (sm.seq hs)) (pr rs))⟩⟩
      | _ => exact F2.elim
  · exact F1.elim
theorem walk_zipT {K : PySem.W.Frag} {a b : Addr} {xs ys : List V} {n : Nat} (hn : n = min xs.length ys.length) : Walk (RZ.ItzT K a b) n (fun H => SqT K H a xs ∧ SqT K H b ys) (YPair (fun i => xs[i]?) (fun i => ys[i]?)) := by
  subst hn
  refine ⟨fun i _ hi q => ?_, fun _ q => ⟨xs, ys, q.1, q.2, by omega⟩, fun i H v H' _ q y => ?_⟩
  · have h1 : i < xs.length := by omega
    have h2 : i < ys.length := by omega
    exact ⟨xs, ys, xs[i], ys[i], q.1, q.2, by simp [h1], by simp [h2]⟩
  · obtain ⟨T, x, z, h1, h2, h3, h4, h5⟩ := y
    exact ⟨T, x, z, h1, h2, h3, h4 xs q.1, h5 ys q.2⟩
theorem zip_prs {K : PySem.W.Frag} {F : Hp} {ts us : List T} {vs ws : List V} (r1 : Reps K F ts vs) (r2 : Reps K F us ws) : ∀ i x y, i < min vs.length ws.length → (fun i => vs[i]?) i = some x → (fun i => ws[i]?) i = some y → ∃ t u, (zipT ts us)[i]? = some (.tup [t, u]) ∧ Rep K F t x ∧ Rep K F u y := fun i x y hi e1 e2 => by
  obtain ⟨t, e3, q1⟩ := r1.getV e1
  obtain ⟨u, e4, q2⟩ := r2.getV e2
  refine ⟨t, u, ?_, q1, q2⟩
  unfold zipT
  rw [List.getElem?_map, List.getElem?_zip_eq_some (z := (t, u)) |>.mpr ⟨e3, e4⟩]
  rfl
theorem zipT_len {K : PySem.W.Frag} {F : Hp} {ts us : List T} {vs ws : List V} (r1 : Reps K F ts vs) (r2 : Reps K F us ws) : min vs.length ws.length = (zipT ts us).length := by
  unfold zipT
  rw [List.length_map, List.length_zip, r1.len, r2.len]
theorem pi_zip_ {e e2 : Expr} {p pos tpos : Pos} {elts : List Expr} {kk : Nat} {gs : Ev → M (List RV)} (hg : Gl X "zip") (hm : X.mg "zip" = none) (ha : PA X [e, e2] (TAI X tb W gs)) (hs : starEach [e, e2] X.env = (false, eval e X.env) :: starEach [e2] X.env) (hpl : (backTo pos (starEach [e2] X.env)).any (·.1) = false) :
    PI X (.Tuple elts kk tpos) (.Call (.Name "zip" p) [e, e2] [] pos) (TII X tb W (iZipM gs)) := by
  refine ⟨fun pins s σ H R I hq => (RZ.pi_zipA hg hm ha hs hpl).run pins s σ H R I ?_⟩
  obtain ⟨ρ, env, h, S, E, F⟩ := hq
  refine ⟨ρ, env, h, S, E, F.bind fun vs h1 ρ1 H1 xs S1 st1 r1 F1 => ?_⟩
  obtain ⟨ts, h2, S2, st2, r2, F2⟩ := toTs_fin S1 r1 F1
  split at F2
  · cases r2 with
    | cons q1 r2 =>
      cases r2 with
      | cons q2 r2 =>
        cases r2
        cases q1 with
        | tup hs1 rs1 =>
          cases q2 with
          | tup hs2 rs2 =>
            exact ⟨_, _, _, _, rfl, .inr ⟨sqT_same Fz.le hs1, sqT_same Fz.le hs2, F2.ok S2 (rlIt_pairs (C := sur X tb) (walk_zipT rfl) (zipT_len rs1 rs2) (fun H' ⟨ρ', h', sm⟩ => ⟨sqT_same Fz.le (sqT_same sm hs1), sqT_same Fz.le (sqT_same sm hs2)⟩) (zip_prs rs1 rs2))⟩⟩
  · cases r2 with
    | cons q1 r2 =>
      cases r2 with
      | cons q2 r2 =>
        cases r2
        split at F2
        · rename_i us ws e1 e2
          obtain ⟨a, vs1, rfl, hs1, rs1⟩ := q1.list e1
          obtain ⟨b, vs2, rfl, hs2, rs2⟩ := q2.list e2
          exact ⟨_, _, _, _, rfl, .inl ⟨Same.seq Fz.le hs1, Same.seq Fz.le hs2, F2.ok S2 (rlIt_pairs (C := sur X tb) (walk_zip rfl) (zipT_len rs1 rs2) (fun H' ⟨ρ', h', sm⟩ => ⟨Same.seq Fz.le (sm.seq hs1), Same.seq Fz.le (sm.seq hs2)⟩) (zip_prs rs1 rs2))⟩⟩
        · exact F2.elim
  · exact F2.elim
end
end Py

set_option Elab.async false
set_option linter.all false
set_option maxRecDepth 100000
set_option maxHeartbeats 4000000
namespace Py
open PySem PySem.Spec PyProof.Rows L2 Lw LamX
/-! ### comprehensions -/
def wipeE (env : Ev) : List Nat → Ev
  | [] => env
  | v :: vs => (wipeE env vs).set v none
theorem EnvR.wipe {K : PySem.W.Frag} {F : Hp} {ρ : Pl} {env : Ev} {σ : L2.St} (E : EnvR K F ρ env σ) : ∀ vs : List Nat, EnvR K F ρ (wipeE env vs) (wipe σ vs)
  | [] => E
  | v :: vs => (E.wipe vs).unset v none
/-- one item: nothing, or a tree -/
def lcStep (f : RV → Ev → Hs → Option Ev) (c : Ev → M Bool) (e : Ev → M RV) (env : Ev) (t : T) : M (Option T) := fun h => match f (.t t) env h with
  | some env' => (c env' h).bind fun b h1 => if b = true then (e env' h1).bind fun v h2 => (toT v h2).bind fun u h3 => .ok (some u) h3 else .ok none h1
  | none => .stuck
def lcAll (step : T → M (Option T)) : List T → M (List T)
  | [], h => .ok [] h
  | t :: ts, h => match step t h with
    | .ok o h1 => match lcAll step ts h1 with
      | .ok us h2 => .ok (match o with | some u => u :: us | none => us) h2
      | _ => .stuck
    | _ => .stuck
def gLc (hp : Bool) (it : Ev → M (List T)) (f : RV → Ev → Hs → Option Ev) (c : Ev → M Bool) (e : Ev → M RV) (own : List Nat) : Ev → M RV := fun env h =>
  (it env h).bind fun ts h1 => match lcAll (lcStep f c e (wipeE env own)) ts h1 with
    | .ok us h2 => fresh hp (.lst us) h2
    | _ => .stuck
def cYes : Ev → M Bool := fun _ h => .ok true h
abbrev Wf : WX := fun _ _ _ _ => False
theorem wipe_at {σ : L2.St} {i : Nat} : ∀ {vs : List Nat}, i < σ.length → (wipe σ vs)[i]? = if i ∈ vs then some none else σ[i]?
  | [], _ => by simp [wipe]
  | v :: vs, h => by
    unfold wipe
    by_cases e : v = i
    · subst e
      rw [List.getElem?_set_self (by rw [wipe_length]; exact h), if_pos List.mem_cons_self]
    · rw [List.getElem?_set_ne e, wipe_at h]
      have q : (i ∈ v :: vs) ↔ i ∈ vs := by simp [Ne.symm e]
      simp only [q]
theorem wipe_off {own : List Nat} {σ σ' : L2.St} (o : Off own (wipe σ own) σ') : wipe σ' own = wipe σ own := by
  obtain ⟨hl, ho⟩ := o
  rw [wipe_length] at hl
  refine List.ext_getElem? fun i => ?_
  by_cases hi : i < σ.length
  · rw [wipe_at (by omega), wipe_at hi]
    split
    · rfl
    · rename_i h
      rw [ho i h, wipe_at hi, if_neg h]
  · rw [List.getElem?_eq_none (by rw [wipe_length]; omega), List.getElem?_eq_none (by rw [wipe_length]; omega)]
theorem lcAll_cons {step : T → M (Option T)} {t : T} {ts us : List T} {h h2 : Hs} (e : lcAll step (t :: ts) h = .ok us h2) : ∃ o h1 rest, step t h = .ok o h1 ∧ lcAll step ts h1 = .ok rest h2 ∧ us = (match o with | some u => u :: rest | none => rest) := by
  unfold lcAll at e
  split at e
  · rename_i o h1 e1
    split at e
    · rename_i us' h2' e2
      cases e
      exact ⟨o, h1, us', e1, e2, rfl⟩
    · cases e
  · cases e
section
variable {X : Cx} {tb : List (Addr × Str)} {W : WX}
theorem Fin.of_ok {α β : Type} {C : Sur} {A : XK} {Rl : Hp → Pl → α → β → Prop} {ρ : Pl} {h : Hs} {H : Hp} {Q : β → Hp → Prop} {r : Res α} {a : α} {h' : Hs} (e : r = .ok a h') (k : ∀ (ρ' : Pl) (H' : Hp) (b : β), Hst C ρ' h' H' → Step ρ h H ρ' h' H' → Rl (Fz ρ' h' H') ρ' a b → Q b H') : Fin C A Rl ρ h H r Q := by
  subst e
  exact k
/-- the state while a list is built at D, from the state ahead of it -/
structure Bld (C : Sur) (ρ0 : Pl) (h0 : Hs) (H0 : Hp) (D : Addr) (ρ : Pl) (h : Hs) (H : Hp) : Prop where
  S : Hst C ρ h H
  ex : ρ.ex = D :: ρ0.ex
  pre : ∀ (i : Nat) (a : Addr), ρ0.ad[i]? = some a → ρ.ad[i]? = some a
  same : Same (Fz ρ0 h0 H0) (Fz ρ h H)
  exs : ∀ a ∈ ρ0.ex, H a = H0 a
theorem Bld.step {C : Sur} {ρ0 ρ ρ' : Pl} {h0 h h' : Hs} {H0 H H' : Hp} {D : Addr} (B : Bld C ρ0 h0 H0 D ρ h H) (S : Hst C ρ' h' H') (st : Step ρ h H ρ' h' H') : Bld C ρ0 h0 H0 D ρ' h' H' :=
  ⟨S, st.exq.trans B.ex, fun i a e => st.pre i a (B.pre i a e), B.same.trans st.same, fun a m => (st.exs a (by rw [B.ex]; exact List.mem_cons_of_mem _ m)).trans (B.exs a m)⟩
theorem lc_core_ {J : It} {ts us : List T} {f : RV → Ev → Hs → Option Ev} {c : Ev → M Bool} {e : Ev → M RV} {own : List Nat} {F0 : Hp} {hp : Bool} {Q : VK}
    (R : RlIt (sur X tb) F0 ts J) {σ : L2.St} {H0 : Hp} {ρ0 : Pl} {env : Ev} {h0 h2 : Hs} (S : Hst (sur X tb) ρ0 h0 H0) (E : EnvR X.K (Fz ρ0 h0 H0) ρ0 env σ) (sm : Same F0 (Fz ρ0 h0 H0))
    (el : lcAll (lcStep f c e (wipeE env own)) ts h0 = .ok us h2) (F : Fin (sur X tb) (at_ W σ) (RepV X.K) ρ0 h0 H0 (fresh hp (.lst us) h2) Q) (D : Addr) (nD : H0 D = none) :
    ∃ W' : Nat → Nat → Hp → Prop, (∃ m, W' 0 m (upd H0 D (.lst []))) ∧ ∀ i m H, W' i m H → (J.stop i H ∧ Q (.ref D) H) ∨ (J.go i H ∧ ∃ Nx : Hp → Prop, (∀ H', Nx H' → ∃ m', m' < m ∧ W' (i + 1) m' H') ∧ ∀ x H', J.yld i H x H' → TGI X tb own f x (wipe σ own) H' fun σ2 H2 => wipe σ2 own = wipe σ own ∧ TTI X tb Wf c σ2 H2 fun b H3 =>
      if b = true then TI X tb Wf e σ2 H3 fun y H4 => ∃ acc, H4 D = some (.lst acc) ∧ acc.length < sizeLine ∧ Nx (upd H4 D (.lst (acc ++ [y]))) else Nx H3) := by
  have nex : D ∉ ρ0.ex := S.nex nD
  have hz : us.length ≤ sizeLine := by
    unfold fresh at F
    simp only at F
    split at F
    · assumption
    · exact F.elim
  obtain ⟨Y, w, hy⟩ := R
  let P : Nat → Hp → Prop := fun i H => ∃ ρ h acc accV rest, Bld (sur X tb) ρ0 h0 H0 D ρ h H ∧ H D = some (.lst accV) ∧ Reps X.K (Fz ρ h H) acc accV ∧ lcAll (lcStep f c e (wipeE env own)) (ts.drop i) h = .ok rest h2 ∧ acc ++ rest = us
  have start : P 0 (upd H0 D (.lst [])) := by
    obtain ⟨S1, sm1⟩ := S.build (xs := []) nD
    exact ⟨⟨ρ0.ad, D :: ρ0.ex⟩, h0, [], [], us, ⟨S1, rfl, fun _ _ e => e, sm1, fun a m => upd_ne fun z => nex (z ▸ m)⟩, upd_same, .nil, by simpa using el, rfl⟩
  refine ⟨fun i m H => m = ts.length - i ∧ i ≤ ts.length ∧ P i H, ⟨ts.length, by simp, Nat.zero_le _, start⟩, ?_⟩
  rintro i m H ⟨rfl, hi, ρ, h, acc, accV, rest, B, eD, ra, el, eu⟩
  have smB := sm.trans B.same
  by_cases hlt : i < ts.length
  · refine .inr ⟨w.goes i H hlt ⟨ρ, h, smB⟩, P (i + 1), fun H' p => ⟨ts.length - (i + 1), by omega, rfl, hlt, p⟩, fun x H' y => ?_⟩
    obtain ⟨sH, t, et, rt⟩ := hy i ρ h H x H' B.S smB (w.yields i H x H' hlt ⟨ρ, h, smB⟩ y)
    obtain ⟨S1, st1⟩ := B.S.grow sH
    have B1 := B.step S1 st1
    have ed : ts.drop i = t :: ts.drop (i + 1) := by
      rw [List.drop_eq_getElem_cons hlt]
      rw [List.getElem?_eq_getElem hlt] at et
      rw [Option.some.inj et]
    rw [ed] at el
    obtain ⟨o, h1, rest', e1, e2, rfl⟩ := lcAll_cons el
    have E1 : EnvR X.K (Fz ρ h H') ρ (wipeE env own) (wipe σ own) := by
      have E' : EnvR X.K (Fz ρ h H') ρ env σ := ⟨E.len, fun i v ev => by
        obtain ⟨x, e1, r⟩ := E.get i v ev
        refine ⟨x, e1, ?_⟩
        cases v with
        | t u => exact Rep.same B1.same r
        | r n =>
          obtain ⟨a, ea, rfl⟩ := r
          exact ⟨a, B1.pre _ _ ea, rfl⟩⟩
      exact E'.wipe own
    refine ⟨ρ, wipeE env own, h, .t t, S1, E1, rt, ?_⟩
    unfold lcStep at e1
    cases hf : f (.t t) (wipeE env own) h with
    | none => rw [hf] at e1; cases e1
    | some env' =>
      rw [hf] at e1
      refine fun σ2 E2 off => ⟨wipe_off off, ρ, env', h, S1, E2, ?_⟩
      simp only at e1
      cases hc : c env' h with
      | err _ _ _ => rw [hc] at e1; cases e1
      | stuck => rw [hc] at e1; cases e1
      | ok b h3 =>
        rw [hc] at e1
        intro ρ3 H3 b' S3 st3 eb
        subst eb
        have B3 := B1.step S3 st3
        have D3 : H3 D = some (.lst accV) := by
          rw [st3.exs D (by rw [B1.ex]; exact List.mem_cons_self), sH _ _ eD]
        have ra3 := (ra.same st1.same).same st3.same
        cases b with
        | false =>
          simp only [Res.bind, Bool.false_eq_true, if_false, Res.ok.injEq] at e1
          obtain ⟨rfl, rfl⟩ := e1
          rw [if_neg Bool.false_ne_true]
          exact ⟨ρ3, h3, acc, accV, rest', B3, D3, ra3, e2, eu⟩
        | true =>
          simp only [Res.bind, if_true] at e1
          rw [if_pos rfl]
          refine ⟨ρ3, env', h3, S3, E2.step st3, ?_⟩
          cases he : e env' h3 with
          | err _ _ _ => rw [he] at e1; cases e1
          | stuck => rw [he] at e1; cases e1
          | ok v h4 =>
            rw [he] at e1
            intro ρ4 H4 y S4 st4 rv
            have B4 := B3.step S4 st4
            have D4 : H4 D = some (.lst accV) := by
              rw [st4.exs D (by rw [B3.ex]; exact List.mem_cons_self), D3]
            have ra4 := ra3.same st4.same
            -- the value becomes a tree
            have e1' : (toT v h4).bind (fun u h5 => Res.ok (some u) h5) = .ok o h1 := e1
            cases ht : toT v h4 with
            | err _ _ _ => rw [ht] at e1'; cases e1'
            | stuck => rw [ht] at e1'; cases e1'
            | ok u h5 =>
            rw [ht] at e1'
            simp only [Res.bind, Res.ok.injEq] at e1'
            obtain ⟨rfl, rfl⟩ := e1'
            obtain ⟨S5, st5, r5⟩ := toT_finE S4 rv ht
            have B5 := B4.step S5 st5
            have mD : D ∈ ρ4.ex := by rw [B4.ex]; exact List.mem_cons_self
            obtain ⟨S6, Fe⟩ := S5.built (xs := accV ++ [y]) mD
            have l1 := ra.len
            refine ⟨accV, D4, ?_, ρ4, h5, acc ++ [u], accV ++ [y], rest', ⟨S6, B5.ex, B5.pre, by rw [Fe]; exact B5.same, fun a m => ?_⟩, upd_same, ?_, e2, ?_⟩
            · rw [← eu, List.length_append, List.length_cons] at hz
              omega
            · rw [upd_ne (fun z : a = D => nex (z ▸ m))]
              exact B5.exs a m
            · rw [Fe]
              exact (ra4.same st5.same).app (.cons r5 .nil)
            · rw [List.append_assoc]
              exact eu
  · have e : i = ts.length := by omega
    subst e
    refine .inl ⟨w.stops H ⟨ρ, h, smB⟩, ?_⟩
    rw [List.drop_length] at el
    cases el
    rw [List.append_nil] at eu
    subst eu
    obtain ⟨ad, ex⟩ := ρ
    cases (show ex = D :: ρ0.ex from B.ex)
    unfold fresh at F
    simp only at F
    rw [if_pos hz] at F
    split at F
    · obtain ⟨S6, Fe⟩ := B.S.bcell nex eD ra
      refine F _ _ _ S6 ⟨fun i a ea => ?_, by rw [Fe]; exact B.same, rfl, B.exs⟩ ⟨D, ?_, rfl⟩
      · have q := B.pre i a ea
        show (ad ++ [D])[i]? = some a
        rw [List.getElem?_append_left (List.getElem?_eq_some_iff.mp q).1]
        exact q
      · show (ad ++ [D])[h2.length]? = some D
        rw [← (show ad.length = h2.length from B.S.len), List.getElem?_append_right (Nat.le_refl _), Nat.sub_self]
        rfl
    · obtain ⟨S6, sm6, r6⟩ := B.S.bdone nex eD ra
      exact F _ _ _ S6 ⟨B.pre, B.same.trans sm6, rfl, B.exs⟩ r6
theorem gLc_fin {it : Ev → M (List T)} {f : RV → Ev → Hs → Option Ev} {c : Ev → M Bool} {e : Ev → M RV} {own : List Nat} {hp : Bool} {σ : L2.St} {H : Hp} {ρ : Pl} {env : Ev} {h : Hs} {Q : VK} (E : EnvR X.K (Fz ρ h H) ρ env σ) (F : Fin (sur X tb) (at_ W σ) (RepV X.K) ρ h H (gLc hp it f c e own env h) Q) :
    Fin (sur X tb) (at_ W σ) (fun F _ ts J => RlIt (sur X tb) F ts J) ρ h H (it env h) fun J H1 => ∀ D, H1 D = none → ∃ W' : Nat → Nat → Hp → Prop, (∃ m, W' 0 m (upd H1 D (.lst []))) ∧ ∀ i m H, W' i m H → (J.stop i H ∧ Q (.ref D) H) ∨ (J.go i H ∧ ∃ Nx : Hp → Prop, (∀ H', Nx H' → ∃ m', m' < m ∧ W' (i + 1) m' H') ∧ ∀ x H', J.yld i H x H' → TGI X tb own f x (wipe σ own) H' fun σ2 H2 => wipe σ2 own = wipe σ own ∧ TTI X tb Wf c σ2 H2 fun b H3 =>
      if b = true then TI X tb Wf e σ2 H3 fun y H4 => ∃ acc, H4 D = some (.lst acc) ∧ acc.length < sizeLine ∧ Nx (upd H4 D (.lst (acc ++ [y]))) else Nx H3) := by
  refine F.bind fun ts h1 ρ1 H1 J S1 st1 R F1 D nD => ?_
  cases el : lcAll (lcStep f c e (wipeE env own)) ts h1 with
  | ok us h2 =>
    rw [el] at F1
    exact lc_core_ R S1 (E.step st1) (Same.refl _) el F1 D nD
  | err _ _ _ => rw [el] at F1; exact F1.elim
  | stuck => rw [el] at F1; exact F1.elim
theorem pe_lc_ {elt tg iter : Expr} {ifs : List Expr} {scope : Scope} {own : List (Str × Nat)} {pos : Pos} {it : Ev → M (List T)} {f : RV → Ev → Hs → Option Ev} {c : Ev → M Bool} {e : Ev → M RV} {hp : Bool} (hc : X.calm = true) (hN : X.N.Nodup) (hi : PI X tg iter (TII X tb W it)) (ok : BlkOk X.N X.env.scope scope own)
    (hg : ∀ (s : Shared) (H : Hp) (C : Addr) (cl : List (Str × Addr)) (fp : List Addr), PG (X.blk s H scope (compEnvC scope cl C X.env) fp) tg (TGI X tb (own.map (·.2)) f)) (ht : ∀ (s : Shared) (H : Hp) (C : Addr) (cl : List (Str × Addr)) (fp : List Addr), PTs (X.blk s H scope (compEnvC scope cl C X.env) fp) ifs (TTI X tb Wf c))
    (he : ∀ (s : Shared) (H : Hp) (C : Addr) (cl : List (Str × Addr)) (fp : List Addr), PE (X.blk s H scope (compEnvC scope cl C X.env) fp) elt (TI X tb Wf e)) (hs : ∀ x, foldedSetIterable iter X.env x = pure x) :
    PE X (.ListComp elt [⟨tg, iter, ifs, 0⟩] scope pos) (TI X tb W (gLc hp it f c e (own.map (·.2)))) := by
  refine ⟨fun pins s σ H Q I hq => (pe_lc hc hN hi ok hg ht he hs).run pins s σ H Q I ?_⟩
  obtain ⟨ρ, env, h, S, E, F⟩ := hq
  exact ⟨ρ, env, h, S, E, gLc_fin E F⟩
theorem ps_setLc_ {i : Nat} {y : Str} {py : Pos} {elt tg iter : Expr} {ifs : List Expr} {scope : Scope} {own : List (Str × Nat)} {pos spos : Pos} {it : Ev → M (List T)} {f : RV → Ev → Hs → Option Ev} {c : Ev → M Bool} {e : Ev → M RV} {hp : Bool} (hc : X.calm = true) (hN : X.N.Nodup) (hy : X.N[i]? = some y) (hyl : X.env.scope.names.lookup y = some .local)
    (hsw : swapsWith (.ListComp elt [⟨tg, iter, ifs, 0⟩] scope pos) (some (.Name y py)) spos.line X.env = pure true) (hi : PI X tg iter (TII X tb W it)) (ok : BlkOk X.N X.env.scope scope own)
    (hg : ∀ (s : Shared) (H : Hp) (C : Addr) (cl : List (Str × Addr)) (fp : List Addr), PG (X.blk s H scope (compEnvC scope cl C X.env) fp) tg (TGI X tb (own.map (·.2)) f)) (ht : ∀ (s : Shared) (H : Hp) (C : Addr) (cl : List (Str × Addr)) (fp : List Addr), PTs (X.blk s H scope (compEnvC scope cl C X.env) fp) ifs (TTI X tb Wf c))
    (he : ∀ (s : Shared) (H : Hp) (C : Addr) (cl : List (Str × Addr)) (fp : List Addr), PE (X.blk s H scope (compEnvC scope cl C X.env) fp) elt (TI X tb Wf e)) (hs : ∀ x, foldedSetIterable iter X.env x = pure x) :
    PS X (.Assign [.Name y py] (.ListComp elt [⟨tg, iter, ifs, 0⟩] scope pos) spos) (TSI X tb W (sAsg (aName i) (gLc hp it f c e (own.map (·.2))))) := by
  refine ⟨fun pins s σ H D I hq => (ps_setLc hc hN hy hyl hsw hi ok hg ht he hs).run pins s σ H D I ?_⟩
  obtain ⟨ρ, env, h, S, E, F⟩ := hq
  refine ⟨ρ, env, h, S, E, gLc_fin (Q := fun x H1 => D.nx (σ.set i (some x)) H1) E ((asg_fin (own := [i]) E F).mono fun x H1 q => ?_)⟩
  obtain ⟨ρ1, env1, h1, rv, S1, E1, r1, F1⟩ := q
  exact F1 _ (E1.set i r1) ⟨by rw [List.length_set], fun j hj => List.getElem?_set_ne (fun z : i = j => hj (List.mem_singleton.mpr z.symm))⟩
theorem pts_nil_ {X' : Cx} (hX : sur X' tb = sur X tb) (hK : X'.K = X.K) : PTs X' [] (TTI X' tb Wf cYes) := by
  refine ⟨fun pins s σ H Q I hq => pts_nil.run pins s σ H Q I ?_⟩
  obtain ⟨ρ, env, h, S, E, F⟩ := hq
  exact F.ok S rfl
theorem pts_one_ {c : Expr} {t : Ev → M Bool} (h : PT X c (TTI X tb W t)) : PTs X [c] (TTI X tb W t) := pts_one h
/-! ### while -/
def whl (c : Ev → M Bool) (b : SM) : Nat → SM
  | 0, _, _ => .stuck
  | n + 1, env, h => (c env h).sb env fun k h1 => if k = true then match b env h1 with
      | .next env' h' => whl c b n env' h'
      | .cnt env' h' => whl c b n env' h'
      | .brk env' h' => .next env' h'
      | r => r
    else .next env h1
theorem ps_whl_ {cnd : Expr} {body : List Stmt} {pos : Pos} {c : Ev → M Bool} {b : SM} {n : Nat} (hp : PassesOwn (model X.prog X.w) X.A X.env X.xe) (hc : PT X cnd (TTI X tb W c)) (hb : PSs X body (TSI X tb W b)) : PS X (.While cnd body [] pos) (TSI X tb W (whl c b n)) := by
  refine ⟨fun pins s σ H D I hq => (ps_while hp hc hb).run pins s σ H D I ?_⟩
  refine ⟨fun m σ H => TSI X tb W (whl c b m) D σ H, ⟨n, hq⟩, ?_⟩
  rintro m σ H ⟨ρ, env, h, S, E, F⟩
  cases m with
  | zero => exact F.elim
  | succ m =>
    refine ⟨ρ, env, h, S, E, FinS.bind (C := sur X tb) E F fun k h1 ρ1 H1 x S1 st1 r1 F1 => ?_⟩
    cases r1
    cases k with
    | false => exact F1 ρ1 H1 σ S1 Step.refl (E.step st1)
    | true =>
      rw [if_pos rfl] at F1 ⊢
      refine ⟨fun σ H => TSI X tb W (whl c b m) D σ H, fun σ' H' q => ⟨m, Nat.lt_succ_self m, q⟩, ρ1, env, h1, S1, E.step st1, ?_⟩
      cases hb2 : b env h1 with
      | next e2 h2 => rw [hb2] at F1; exact fun ρ2 H2 σ2 S2 st2 E2 => ⟨ρ2, e2, h2, S2, E2, FinS.rebase (show FinS _ W ρ1 h1 H1 (whl c b m e2 h2) D from F1) st2⟩
      | cnt e2 h2 => rw [hb2] at F1; exact fun ρ2 H2 σ2 S2 st2 E2 => ⟨ρ2, e2, h2, S2, E2, FinS.rebase (show FinS _ W ρ1 h1 H1 (whl c b m e2 h2) D from F1) st2⟩
      | brk e2 h2 => rw [hb2] at F1; exact F1
      | ret v h2 => rw [hb2] at F1; exact F1
      | err c v e2 h2 => rw [hb2] at F1; exact F1
      | stuck => rw [hb2] at F1; exact F1
end
end Py

set_option Elab.async false
set_option linter.all false
set_option maxRecDepth 100000
set_option maxHeartbeats 4000000
namespace Py
open PySem PySem.Spec PyProof.Rows L2 Lw LamX
/-- a def of the text: a global one, one of a class -/
inductive FK where
  | g (x : Str) | m (c x : Str)
  deriving DecidableEq
abbrev CF := FK → List RV → M RV
theorem takes_false {X : Cx} : Takes X Wf := fun u s' ⟨_, _, _, _, _, _, _, _, _, _, _, _, _, _, _, _, z⟩ => z.elim
/-- what a def of the machine promises -/
def spI (C : Sur) (g : List RV → M RV) (n : Nat) : Sp := fun vs H Q E => vs.length = n ∧ ∃ ρ h args, Hst C ρ h H ∧ RepVs C.K (Fz ρ h H) ρ args vs ∧ Fin C E (RepV C.K) ρ h H (g args h) Q
/-- the def at f keeps to the machine's g -/
structure FI (P : Program) (w : World) (K : PySem.W.Frag) (mg : Str → Option Value) (base : Heap) (tb : List (Addr × Str)) (k : Nat) (f : Addr) (g : List RV → M RV) : Prop where
  ex : ∃ fd ps, FnG P w K mg base (L2.CX P w) k f fd ps (spI ⟨K, tb⟩ g ps.length) ∧ Binds K fd ps [] ∧ ∀ vs h, vs.length ≠ ps.length → g vs h = .stuck
  kp : PySem.W.keepIn K (.ref f) = true
theorem RepVs.len {K : PySem.W.Frag} {F : Hp} {ρ : Pl} : ∀ {vs : List RV} {xs : List V}, RepVs K F ρ vs xs → vs.length = xs.length
  | _, _, .nil => rfl
  | _, _, .cons _ r => congrArg (· + 1) r.len
section
variable {X : Cx} {tb : List (Addr × Str)} {W : WX}
theorem run_call {k : Nat} {f : Addr} {g : List RV → M RV} (G : FI X.prog X.w X.K X.mg X.base tb k f g) (hg : X.A.guards = some []) (hr : Room k X.A) (tk : Takes X W) : RunL X tb W (fun us => call (.ref f) us) g := by
  intro pins s σ H xs us ρ h vs Q I rx S rs F
  obtain ⟨fd, ps, FG, hb, hn⟩ := G.ex
  by_cases hl : vs.length = ps.length
  · have hlx : xs.length = ps.length := by rw [← rs.len]; exact hl
    have hlu : us.length = ps.length := by rw [← rx.length]; exact hlx
    have e := hb s us I.kIn (by simpa using hlu)
    rw [List.append_nil] at e
    refine wpAny_call (codeAny_mono (FG.run X.A X.stack s H ⟨us, []⟩ us xs Q (at_ W σ) hg hr I.env0 e rx ⟨hlx, ρ, h, vs, S, rs, F⟩) ?_)
    intro res s' hq
    match res, hq with
    | .error er, hq => exact tk er s' (XE.of_call I (fun cls d H' z => z) hq)
    | .ok (.ret u), hq => exact I.after hq
    | .ok .next, hq => exact hq.elim
    | .ok .brk, hq => exact hq.elim
    | .ok .cont, hq => exact hq.elim
  · rw [hn vs h hl] at F
    exact F.elim
theorem args_run {es : List Expr} {pos : Pos} {f : List RV → M RV} {gs : Ev → M (List RV)} (ha : PA X es (TAI X tb W gs)) {c : List Value → Sem Value} (hc : RunL X tb W c f) {pins : List (Addr × Obj)} {s : Shared} {σ : L2.St} {H : Hp} {Q : VK} (I : Inv X pins σ H s) {ρ : Pl} {env : Ev} {h : Hs} (S : Hst (sur X tb) ρ h H) (E : EnvR X.K (Fz ρ h H) ρ env σ)
    (F : Fin (sur X tb) (at_ W σ) (RepV X.K) ρ h H ((gs env h).bind f) Q) : wpAny (model X.prog X.w) X.A (spliced (backTo pos (starEach es X.env))) (fun us s1 => X.K.In s1.heap ∧ wpAny (model X.prog X.w) X.A (c us) (EP X pins σ Q) X.xe s1) X.xe s :=
  thn (ha.run pos pins s σ H (fun xs H1 => ∃ ρ h vs, Hst (sur X tb) ρ h H1 ∧ RepVs X.K (Fz ρ h H1) ρ vs xs ∧ Fin (sur X tb) (at_ W σ) (RepV X.K) ρ h H1 (f vs h) Q) I
    ⟨ρ, env, h, S, E, F.bind fun vs h1 ρ1 H1 xs S1 st1 r1 F1 => ⟨ρ1, h1, vs, S1, r1, F1⟩⟩) fun us s1 ⟨xs, H1, I1, r1, ρ, h, vs, S, rs, F⟩ => ⟨I1.kIn, hc pins s1 σ H1 xs us ρ h vs Q I1 r1 S rs F⟩
/-- f(e, ..), f a def of the text -/
theorem pe_call_ {x : Str} {f : Addr} {e : Expr} {es : List Expr} {p pos : Pos} {g : List RV → M RV} {gs : Ev → M (List RV)} (hc : RunL X tb W (fun us => call (.ref f) us) g) (kp : PySem.W.keepIn X.K (.ref f) = true) (hg : Gl X x) (hm : X.mg x = some (.ref f)) (ha : PA X (e :: es) (TAI X tb W gs)) (hdb : (x == ("__debug__" : Str)) = false)
    (he : starEach (e :: es) X.env = (false, eval e X.env) :: starEach es X.env) (hpl : (backTo pos (starEach es X.env)).any (·.1) = false) : PE X (.Call (.Name x p) (e :: es) [] pos) (TI X tb W (gL g gs)) := by
  refine ⟨fun pins s σ H Q I hq => ?_⟩
  obtain ⟨ρ, env, h, S, E, F⟩ := hq
  exact wpAny_Call_Name_kw (ld_glob I hg hm (PySem.W.callWith_K (h₀ := X.base) I.ok.mod.kin kp (args_run ha hc I S E F) he hpl) hdb)
theorem pe_call0_ {x : Str} {f : Addr} {p pos : Pos} {g : List RV → M RV} (hc : RunL X tb W (fun us => call (.ref f) us) g) (kp : PySem.W.keepIn X.K (.ref f) = true) (hg : Gl X x) (hm : X.mg x = some (.ref f)) (hdb : (x == ("__debug__" : Str)) = false) : PE X (.Call (.Name x p) [] [] pos) (TI X tb W (gL g gNil)) := by
  refine ⟨fun pins s σ H Q I hq => ?_⟩
  obtain ⟨ρ, env, h, S, E, F⟩ := hq
  exact wpAny_Call_Name_kw (ld_glob I hg hm (PySem.W.callWith_K0 I.kIn kp (hc pins s σ H [] [] ρ h [] Q I .nil S .nil F)) hdb)
end
/-- what a def brings: its cells are given up, unless it is one that keeps them -/
def defEnd (keep : Bool) (k : Nat) (v : RV) (h : Hs) : Res RV :=
  if keep = true then .ok v h else match v with
  | .t t => .ok (.t t) (h.take k)
  | .r m => if m < k then .ok (.r m) (h.take k) else match h[m]? with
    | some c => .ok (.t c.tree) (h.take k)
    | none => .stuck
/-- a def: its parameters, its slots, its body -/
def runDef (keep : Bool) (np nn : Nat) (b : SM) : List RV → M RV := fun args h =>
  if args.length = np then match b (args.map some ++ List.replicate (nn - np) none) h with
    | .ret v h' => defEnd keep h.length v h'
    | .next _ h' => defEnd keep h.length (.t .non) h'
    | .err c t _ h' => .err c t (h'.take h.length)
    | _ => .stuck
  else .stuck
theorem cut_step {C : Sur} {ρ ρ' : Pl} {h h' : Hs} {H H' : Hp} (S : Hst C ρ h H) (S' : Hst C ρ' h' H') (st : Step ρ h H ρ' h' H') : Hst C ⟨ρ'.ad.take h.length, ρ'.ex⟩ (h'.take h.length) H' ∧ Step ρ h H ⟨ρ'.ad.take h.length, ρ'.ex⟩ (h'.take h.length) H' ∧ Same (Fz ρ' h' H') (Fz ⟨ρ'.ad.take h.length, ρ'.ex⟩ (h'.take h.length) H') := by
  obtain ⟨S1, sm⟩ := S'.cut h.length
  refine ⟨S1, ⟨fun i a e => ?_, st.same.trans sm, st.exq, st.exs⟩, sm⟩
  have q := st.pre i a e
  have hi : i < h.length := by rw [← S.len]; exact (List.getElem?_eq_some_iff.mp e).1
  show (ρ'.ad.take h.length)[i]? = some a
  rw [List.getElem?_take_of_lt hi]
  exact q
theorem defEnd_fin {C : Sur} {A : XK} {keep : Bool} {ρ ρ' : Pl} {h h' : Hs} {H H' : Hp} {v : RV} {x : V} {Q : VK} (S : Hst C ρ h H) (S' : Hst C ρ' h' H') (st : Step ρ h H ρ' h' H') (r : RepV C.K (Fz ρ' h' H') ρ' v x) (F : Fin C A (RepV C.K) ρ h H (defEnd keep h.length v h') Q) : Q x H' := by
  obtain ⟨S1, st1, sm⟩ := cut_step S S' st
  unfold defEnd at F
  split at F
  · exact F _ _ _ S' st r
  · split at F
    · rename_i t
      exact F _ _ _ S1 st1 (Rep.same sm r)
    · rename_i m
      obtain ⟨a, ea, rfl⟩ := r
      split at F
      · rename_i hm
        exact F _ _ _ S1 st1 ⟨a, by show (ρ'.ad.take h.length)[m]? = some a; rw [List.getElem?_take_of_lt hm]; exact ea, rfl⟩
      · rename_i hm
        split at F
        · rename_i c ec
          obtain ⟨S2, st2, a', ea', r'⟩ := S'.freeze ec
          rw [ea] at ea'
          cases ea'
          -- frozen where it stood, then given up
          obtain ⟨S3, st3, sm3⟩ := cut_step S S2 (st.trans st2)
          have e3 : (h'.set m (.fz c.tree)).take h.length = h'.take h.length := by
            rw [List.take_set, List.set_eq_of_length_le]
            rw [List.length_take]
            omega
          rw [e3] at S3 st3 sm3
          exact F _ _ _ S3 st3 (Rep.same sm3 r')
        · exact F.elim
theorem start_env {K : PySem.W.Frag} {F : Hp} {ρ : Pl} {N : List Str} {args : List RV} {vs : List V} (r : RepVs K F ρ args vs) (np : Nat) (hl : args.length = np) : EnvR K F ρ (args.map some ++ List.replicate (N.length - np) none) (L2.start N vs) := by
  have hl2 := r.len
  refine ⟨by unfold L2.start; rw [List.length_append, List.length_append, List.length_map, List.length_map, List.length_replicate, List.length_replicate]; omega, fun i v e => ?_⟩
  by_cases hi : i < args.length
  · rw [List.getElem?_append_left (by simpa using hi), List.getElem?_map] at e
    have key : ∀ {args : List RV} {vs : List V} {i : Nat} {v : RV}, RepVs K F ρ args vs → args[i]? = some v → ∃ x, vs[i]? = some x ∧ RepV K F ρ v x := by
      intro args vs i v r
      induction r generalizing i with
      | nil => intro e; cases e
      | cons h1 _ ih =>
        intro e
        cases i with
        | zero => cases e; exact ⟨_, rfl, h1⟩
        | succ i => exact ih e
    cases ea : args[i]? with
    | none => rw [ea] at e; cases e
    | some u =>
      rw [ea] at e
      cases e
      obtain ⟨x, ex, rx⟩ := key r ea
      refine ⟨x, ?_, rx⟩
      unfold L2.start
      rw [List.getElem?_append_left (by rw [List.length_map, ← hl2]; exact hi), List.getElem?_map, ex]
      rfl
  · rw [List.getElem?_append_right (by simpa using Nat.le_of_not_lt hi)] at e
    rw [List.getElem?_replicate] at e
    split at e <;> cases e
section
variable {P : Program} {w : World} {K : PySem.W.Frag} {mg : Str → Option Value} {base : Heap} {tb : List (Addr × Str)}
/-- a def of the text keeps to the machine's def, its body doing so -/
theorem def_ok {k : Nat} {f : Addr} {fd : FuncData} {x qual : Str} {params : Arguments} {body : List Stmt} {scope : Scope} {N ps : List Str} {keep : Bool} {b : SM} (F : FunD K x qual params body scope [] [] f fd) (S : FnScope N ps scope) (hb : Binds K fd ps [])
    (H : ∀ (cdv : Value) (A : Around) (outer : List Env) (s : Shared) (H : Hp) (E : XK), A.guards = some [] → Room k (A.deeper (envOfC qual scope s.heap.objs.size f cdv)) →
      PSs (cxOf (L2.CX P w) P w K mg base N qual scope f cdv A outer s H E) body (TSI (cxOf (L2.CX P w) P w K mg base N qual scope f cdv A outer s H E) tb (fun c d _ H => E c d H) b)) :
    FI P w K mg base tb (k + 1) f (runDef keep ps.length N.length b) := by
  refine ⟨⟨fd, ps, okG F S (fun vs H Q E h => h.1) fun cdv A outer s H' vs Q E hg hr h => ?_, hb, fun vs h hl => by unfold runDef; rw [if_neg hl]⟩, F.kp⟩
  obtain ⟨hl, ρ, h, args, S0, rs, Fn⟩ := h
  refine ⟨_, H cdv A outer s H' E hg hr, ρ, args.map some ++ List.replicate (N.length - ps.length) none, h, S0, start_env rs ps.length (rs.len.trans hl), ?_⟩
  unfold runDef at Fn
  rw [if_pos (rs.len.trans hl)] at Fn
  cases hb2 : b (args.map some ++ List.replicate (N.length - ps.length) none) h with
  | ret v h' => rw [hb2] at Fn; exact fun ρ' H2 x' S' st r => defEnd_fin S0 S' st r Fn
  | next env' h' => rw [hb2] at Fn; exact fun ρ' H2 σ' S' st r => defEnd_fin (v := .t .non) S0 S' st .non Fn
  | brk env' h' => rw [hb2] at Fn; exact Fn.elim
  | cnt env' h' => rw [hb2] at Fn; exact Fn.elim
  | stuck => rw [hb2] at Fn; exact Fn.elim
  | err c t env' h' =>
    rw [hb2] at Fn
    intro ρ' H2 d x' σ' S' st E' e r
    obtain ⟨S1, st1, sm⟩ := cut_step S0 S' st
    exact Fn _ _ d x' S1 st1 e (Rep.same sm r)
end
end Py

set_option Elab.async false
set_option linter.all false
set_option maxRecDepth 100000
set_option maxHeartbeats 4000000
namespace Py
open PySem PySem.Spec PyProof.Rows L2 Lw LamX
/-- what the written part says of classes and their members, further -/
structure Facts2 (K : PySem.W.Frag) (B : Tbl) : Prop extends Facts K B where
  fld : ∀ p ∈ B.fld, NoAttr K (He.ga K p.1) p.2
  mets : ∀ p ∈ B.mets, PySem.W.findIn K (.ref (He.ga K p.1)) p.2 = some (some (.ref (He.ma K (He.ga K p.1) p.2))) ∧ PySem.W.isFn K (.ref (He.ma K (He.ga K p.1) p.2)) = true
  props : ∀ p ∈ B.props, PropOf K (He.ga K p.1) p.2 (He.ma K (He.ga K p.1) p.2) (He5.wf K (He.ga K p.1) "property" p.2)
  stats : ∀ p ∈ B.stats, StaticOf K (He.ga K p.1) p.2 (He.ma K (He.ga K p.1) p.2) (He5.wf K (He.ga K p.1) "staticmethod" p.2)
  mk_ : ∀ c, B.cls.contains c = true → Mk K (He.ga K c) (He.ma K (He.ga K c) "__init__")
  ne : ∀ c, B.cls.contains c = true → PySem.W.findIn K (.ref (He.ga K c)) "__ne__" = some (some (.builtin "object.__ne__"))
/-- where a def stands -/
def FK.at_ (K : PySem.W.Frag) : FK → Addr
  | .g x => He.ga K x
  | .m c x => He.ma K (He.ga K c) x
theorem RepF.put {K : PySem.W.Frag} {F : Hp} {f : Str} {t : T} {v : V} (q : Rep K F t v) : ∀ {ts : List (Str × T)} {vs : List (Str × V)}, RepF K F ts vs → RepF K F (ts.map fun p => if p.1 = f then (f, t) else p) (vs.map fun p => if p.1 = f then (f, v) else p)
  | _, _, .nil => .nil
  | _, _, .cons (k := k) h r => by
    simp only [List.map_cons]
    by_cases e : k = f
    · rw [if_pos e, if_pos e]; exact .cons q (r.put q)
    · rw [if_neg e, if_neg e]; exact .cons h (r.put q)
section
variable {X : Cx} {tb : List (Addr × Str)} {W : WX}
theorem look_obj {C : Sur} {ρ : Pl} {h : Hs} {H : Hp} (S : Hst C ρ h H) {v : RV} {x : V} {c : Str} {ts : List (Str × T)} (r : RepV C.K (Fz ρ h H) ρ v x) (e : look h v = some (.obj c ts)) :
    ∃ a dx fs, x = .ref a ∧ H a = some (.ins (He.ga C.K c) dx fs) ∧ RepF C.K (Fz ρ h H) ts fs := by
  cases v with
  | t u =>
    cases e
    cases r with
    | obj h1 h2 r => exact ⟨_, _, _, rfl, Fz.le _ _ h1, r⟩
  | r n =>
    obtain ⟨a, ea, rfl⟩ := r
    simp only [look, Option.map_eq_some_iff] at e
    obtain ⟨d, ec, e⟩ := e
    have q := S.cell n a d ea ec
    cases d with
    | lst xs => cases e
    | dct k2 => cases e
    | ins c' ts' =>
      cases e
      obtain ⟨dx, vs, e, _, r⟩ := q
      exact ⟨a, dx, vs, rfl, e, r⟩
    | fz t' =>
      cases (show t' = T.obj c ts from e)
      cases (show Rep C.K (Fz ρ h H) (.obj c ts) (.ref a) from q) with
      | obj h1 h2 r => exact ⟨_, _, _, rfl, Fz.le _ _ h1, r⟩
theorem look_err {C : Sur} {ρ : Pl} {h : Hs} {H : Hp} (S : Hst C ρ h H) {v : RV} {x : V} {c : Str} {t : T} (r : RepV C.K (Fz ρ h H) ρ v x) (e : look h v = some (.err c t)) :
    ∃ a y, x = .ref a ∧ ErrV H a (He.ga C.K c) y ∧ Rep C.K (Fz ρ h H) t y := by
  cases v with
  | t u =>
    cases e
    cases r with
    | err h1 r => exact ⟨_, _, rfl, h1.same Fz.le, r⟩
  | r n =>
    obtain ⟨a, ea, rfl⟩ := r
    simp only [look, Option.map_eq_some_iff] at e
    obtain ⟨d, ec, e⟩ := e
    have q := S.cell n a d ea ec
    cases d with
    | lst xs => cases e
    | dct k2 => cases e
    | ins c' ts' => cases e
    | fz t' =>
      cases (show t' = T.err c t from e)
      cases (show Rep C.K (Fz ρ h H) (.err c t) (.ref a) from q) with
      | err h1 r => exact ⟨_, _, rfl, h1.same Fz.le, r⟩
/-! ### v.f -/
def gAttr (B : Tbl) (cf : CF) (f : Str) : RV → M RV := fun v h => match look h v with
  | some (.obj c ts) => if B.cls.contains c = true then match ts.lookup f with
      | some t => if B.fld.contains (c, f) = true then .ok (.t t) h else .stuck
      | none => if B.props.contains (c, f) = true then match cf (.m c f) [v] h with
          | .ok u h' => .ok u h'
          | _ => .stuck
        else .stuck
    else .stuck
  | some (.err c t) => if (B.errs.contains c && decide (f = "value")) = true then .ok (.t t) h else .stuck
  | _ => .stuck
/-- the defs of the text, in their places -/
structure Defs (X : Cx) (tb : List (Addr × Str)) (B : Tbl) (k : Nat) (cf : CF) : Prop where
  g : ∀ x ∈ B.defs, FI X.prog X.w X.K X.mg X.base tb k (He.ga X.K x) (cf (.g x)) ∧ X.mg x = some (.ref (He.ga X.K x))
  m : ∀ p ∈ B.mets, FI X.prog X.w X.K X.mg X.base tb k (He.ma X.K (He.ga X.K p.1) p.2) (cf (.m p.1 p.2))
  p : ∀ p ∈ B.props, FI X.prog X.w X.K X.mg X.base tb k (He5.wf X.K (He.ga X.K p.1) "property" p.2) (cf (.m p.1 p.2))
  s : ∀ p ∈ B.stats, FI X.prog X.w X.K X.mg X.base tb k (He5.wf X.K (He.ga X.K p.1) "staticmethod" p.2) (cf (.m p.1 p.2))
  c : ∀ c, B.cls.contains c = true → X.mg c = some (.ref (He.ga X.K c)) ∧ FI X.prog X.w X.K X.mg X.base tb k (He.ma X.K (He.ga X.K c) "__init__") (cf (.m c "__init__"))
theorem contains_mem {α : Type} [BEq α] [LawfulBEq α] {l : List α} {a : α} (h : l.contains a = true) : a ∈ l := by simpa using h
theorem run_attr {B : Tbl} {cf : CF} {k : Nat} {f : Str} (FA : Facts2 X.K B) (D : Defs X tb B k cf) (hg : X.A.guards = some []) (hr : Room (k + 1) X.A) {b : Bool} {pins : List (Addr × Obj)} {s : Shared} {σ : L2.St} {H : Hp} {x : V} {u : Value} {ρ : Pl} {h : Hs} {v : RV} {Q : VK} (I : Inv X pins σ H s) (rx : RelV x u)
    (S : Hst (sur X tb) ρ h H) (r : RepV X.K (Fz ρ h H) ρ v x) (F : Fin (sur X tb) (at_ W σ) (RepV X.K) ρ h H (gAttr B cf f v h) Q) : wpAny (model X.prog X.w) X.A (getAttr u f b) (EP X pins σ Q) X.xe s := by
  unfold gAttr at F
  split at F
  · rename_i c ts el
    split at F
    · rename_i hc
      obtain ⟨a, dx, fs, rfl, ea, rf⟩ := look_obj S r el
      obtain rfl : u = Value.ref a := rx
      have CF := FA.cls c hc
      split at F
      · rename_i t et
        split at F
        · rename_i hf
          obtain ⟨v', e2, q⟩ := (rf.lookup (f := f)).1 t et
          exact getattr_ok I ea CF.cls (FA.fld _ (contains_mem hf)) e2 fun w' s1 I1 rw' => ⟨v', H, I1, rw', F.rep S q⟩
        · exact F.elim
      · split at F
        · rename_i hp
          have hp' := contains_mem hp
          obtain ⟨fd, ps, FG, hb, hn⟩ := (D.p _ hp').ex
          have hps := FA.props _ hp'
          -- the property's def is called
          obtain ⟨mA, O, _, _, _, _⟩ := ins_get I.hok ea
          obtain ⟨od, J, _⟩ := O.look
          obtain ⟨rest, hrec⟩ := hps.rec_
          have I1 := I.tok (s.toks + 1)
          have hcl : (PySem.W.clsIn X.K (He.ga X.K c)).isSome = true := by
            obtain ⟨cd, hc, _⟩ := PySem.W.any_some CF.cls.hd
            rw [hc]
            rfl
          cases hcf : cf (.m c f) [v] h with
          | err _ _ _ => rw [hcf] at F; exact F.elim
          | stuck => rw [hcf] at F; exact F.elim
          | ok u2 h2 =>
          rw [hcf] at F
          have hl : ps.length = 1 := by
            by_cases z : [v].length = ps.length
            · exact z.symm
            · have e := hn [v] h z
              rw [hcf] at e
              cases e
          refine PySem.W.get_bind I.kIn J (PySem.W.plainGet_of (CF.cls.get f)).1 (PySem.W.findObj_data hcl hps.at_ hps.get hps.tak) (PySem.W.plainGet_of (CF.cls.get f)).2 (wpAny_call (PySem.W.prop_get (s := { s with toks := s.toks + 1 }) I.kIn hrec ?_))
          have eb := hb { s with toks := s.toks + 1 } [.ref a] I1.kIn (by rw [List.append_nil]; exact hl.symm)
          rw [List.append_nil] at eb
          refine codeAny_mono (FG.run X.A.in1 X.stack { s with toks := s.toks + 1 } H ⟨[.ref a], []⟩ [.ref a] [.ref a] Q (fun _ _ _ => False) hg hr.in1 I1.env0.in1 eb (.cons rfl .nil) ⟨hl.symm, ρ, h, [v], S, .cons r .nil, ?_⟩) fun res s' hq => ?_
          · show Fin _ _ _ ρ h H (cf (.m c f) [v] h) Q
            rw [hcf]
            exact F
          · match res, hq with
            | .error er, hq => obtain ⟨_, _, _, _, _, _, _, _, _, _, _, _, z⟩ := hq; exact z.elim
            | .ok (.ret u), hq =>
              obtain ⟨v', H', I3, rv, q3⟩ := I1.after hq
              show wpAny _ _ (handedOut u) _ _ _
              rw [PySem.W.handedOut_of (handed_of rv)]
              exact wpAny_pure ⟨v', H', I3, rv, q3⟩
            | .ok .next, hq => exact hq.elim
            | .ok .brk, hq => exact hq.elim
            | .ok .cont, hq => exact hq.elim
        · exact F.elim
    · exact F.elim
  · rename_i c t el
    split at F
    · rename_i hc
      simp only [Bool.and_eq_true, decide_eq_true_eq] at hc
      obtain ⟨hc, rfl⟩ := hc
      obtain ⟨a, y, rfl, he, q⟩ := look_err S r el
      obtain rfl : u = Value.ref a := rx
      have T := FA.errs c hc
      obtain ⟨ox, od, J, z, hz, rz⟩ := errV_inst I he
      exact PySem.HandSPX.exc_get I.kIn J T.ga T.gg T.ox.exC (PySem.W.findObj_own T.hd T.nv rfl hz) (handed_of rz) ⟨y, H, I.tok _, rz, F.rep S q⟩
    · exact F.elim
  · exact F.elim
theorem pe_attr_ {B : Tbl} {cf : CF} {k : Nat} {f : Str} {e : Expr} {pos : Pos} {g : Ev → M RV} (FA : Facts2 X.K B) (D : Defs X tb B k cf) (hg : X.A.guards = some []) (hr : Room (k + 1) X.A) (he : PE X e (TI X tb W g)) (hb : attributeBase e f X.env (eval e X.env) = eval e X.env) : PE X (.Attribute e f pos) (TI X tb W (g1 (gAttr B cf f) g)) := by
  refine ⟨fun pins s σ H Q I hq => ?_⟩
  obtain ⟨ρ, env, h, S, E, F⟩ := hq
  exact attr_of hb (thn (he.run pins s σ H (fun x H2 => ∃ ρ h v1, Hst (sur X tb) ρ h H2 ∧ RepV X.K (Fz ρ h H2) ρ v1 x ∧ Fin (sur X tb) (at_ W σ) (RepV X.K) ρ h H2 (gAttr B cf f v1 h) Q) I
    ⟨ρ, env, h, S, E, F.bind fun v h1 ρ1 H1 x S1 st1 r1 F1 => ⟨ρ1, h1, v, S1, r1, F1⟩⟩) fun v s1 ⟨x, H1, I1, r1, ρ, h, v1, S, q, F⟩ => run_attr FA D hg hr I1 r1 S q F)
/-! ### v.m(..) -/
def gMth (B : Tbl) (cf : CF) (m : Str) (a : Ev → M RV) (as : Ev → M (List RV)) : Ev → M RV := fun env h => (a env h).bind fun v h1 => match look h1 v with
  | some (.obj c ts) => if (B.cls.contains c && B.mets.contains (c, m) && (ts.lookup m).isNone) = true then (as env h1).bind fun vs h2 => cf (.m c m) (v :: vs) h2 else .stuck
  | _ => .stuck
theorem RunL.cons {f : Addr} {g : List RV → M RV} (G : RunL X tb W (fun us => call (.ref f) us) g) {v : RV} {x : V} {u : Value} {ρ0 : Pl} {h0 : Hs} {H0 : Hp} (rx : RelV x u) (r : RepV X.K (Fz ρ0 h0 H0) ρ0 v x) {pins : List (Addr × Obj)} {s : Shared} {σ : L2.St} {H : Hp} {xs : List V} {us : List Value} {ρ : Pl} {h : Hs} {vs : List RV} {Q : VK} (I : Inv X pins σ H s) (rxs : Vals xs us) (S : Hst (sur X tb) ρ h H) (st : Step ρ0 h0 H0 ρ h H) (rs : RepVs X.K (Fz ρ h H) ρ vs xs)
    (F : Fin (sur X tb) (at_ W σ) (RepV X.K) ρ h H (g (v :: vs) h) Q) : wpAny (model X.prog X.w) X.A (call (.ref f) (u :: us)) (EP X pins σ Q) X.xe s :=
  G pins s σ H (x :: xs) (u :: us) ρ h (v :: vs) Q I (.cons rx rxs) S (.cons (r.step st) rs) F
theorem pe_mth_ {B : Tbl} {cf : CF} {k : Nat} {m : Str} {o e : Expr} {es : List Expr} {apos pos : Pos} {ga : Ev → M RV} {gs : Ev → M (List RV)} {pl : Sem Bool} (FA : Facts2 X.K B) (D : Defs X tb B k cf) (hg : X.A.guards = some []) (hr : Room k X.A) (tk : Takes X W) (ho : PE X o (TI X tb W ga)) (ha : PA X (e :: es) (TAI X tb W gs))
    (hst : starEach (e :: es) X.env = (false, eval e X.env) :: starEach es X.env) (hpl : (backTo pos (starEach es X.env)).any (·.1) = false)
    (ht : eval (.Call (.Attribute o m apos) (e :: es) [] pos) X.env = (do
      let ov ← eval o X.env
      standAt apos.atName
      let (f, first) ← holding [ov] (getMethod ov m pl)
      callWith pos f first (backTo pos (starEach (e :: es) X.env)) (backToKw pos (keywordEach [] X.env)))) :
    PE X (.Call (.Attribute o m apos) (e :: es) [] pos) (TI X tb W (gMth B cf m ga gs)) := by
  refine ⟨fun pins s σ H Q I hq => ?_⟩
  obtain ⟨ρ, env, h, S, E, F⟩ := hq
  refine PySem.W.methodCall_KW (pl := pl) (thn (ho.run pins s σ H (fun x H1 => ∃ ρ h1 v, Hst (sur X tb) ρ h1 H1 ∧ EnvR X.K (Fz ρ h1 H1) ρ env σ ∧ RepV X.K (Fz ρ h1 H1) ρ v x ∧ Fin (sur X tb) (at_ W σ) (RepV X.K) ρ h1 H1 (match look h1 v with
      | some (.obj c ts) => if (B.cls.contains c && B.mets.contains (c, m) && (ts.lookup m).isNone) = true then (gs env h1).bind fun vs h2 => cf (.m c m) (v :: vs) h2 else .stuck
      | _ => .stuck) Q) I
    ⟨ρ, env, h, S, E, F.bind fun v h1 ρ1 H1 x S1 st1 r1 F1 => ⟨ρ1, h1, v, S1, E.step st1, r1, F1⟩⟩) fun u s1 ⟨x, H1, I1, rx, ρ1, h1, v, S1, E1, r1, F1⟩ => ?_) ht
  split at F1
  · rename_i c ts el
    split at F1
    · rename_i hc
      simp only [Bool.and_eq_true, Option.isNone_iff_eq_none] at hc
      obtain ⟨⟨hc, hm⟩, hn⟩ := hc
      have hm' := contains_mem hm
      obtain ⟨a, dx, fs, rfl, ea, rf⟩ := look_obj S1 r1 el
      obtain rfl : u = Value.ref a := rx
      obtain ⟨f1, f2⟩ := FA.mets _ hm'
      have G := run_call (D.m _ hm') hg hr tk
      have kp := (D.m _ hm').kp
      refine getmeth_ok I1 ea (FA.cls c hc).cls ⟨f1, f2, kp⟩ ((rf.lookup (f := m)).2 hn) ?_
      exact PySem.W.callWith_K (first := [.ref a]) (h₀ := X.base) I.ok.mod.kin kp (thn (ha.run pos pins s1 σ H1 (fun xs H2 => ∃ ρ h2 vs, Hst (sur X tb) ρ h2 H2 ∧ Step ρ1 h1 H1 ρ h2 H2 ∧ RepVs X.K (Fz ρ h2 H2) ρ vs xs ∧ Fin (sur X tb) (at_ W σ) (RepV X.K) ρ h2 H2 (cf (.m c m) (v :: vs) h2) Q) I1
        ⟨ρ1, env, h1, S1, E1, F1.bind fun vs h2 ρ2 H2 xs S2 st2 r2 F2 => ⟨ρ2, h2, vs, S2, st2, r2, F2⟩⟩) fun us s2 ⟨xs, H2, I2, r, ρ2, h2, vs, S2, st2, r2, F2⟩ => ⟨I2.kIn, RunL.cons G (show RelV (V.ref a) (Value.ref a) from rfl) r1 I2 r S2 st2 r2 F2⟩) hst hpl
    · exact F1.elim
  · exact F1.elim
theorem pe_mth0_ {B : Tbl} {cf : CF} {k : Nat} {m : Str} {o : Expr} {apos pos : Pos} {ga : Ev → M RV} {pl : Sem Bool} (FA : Facts2 X.K B) (D : Defs X tb B k cf) (hg : X.A.guards = some []) (hr : Room k X.A) (tk : Takes X W) (ho : PE X o (TI X tb W ga))
    (ht : eval (.Call (.Attribute o m apos) [] [] pos) X.env = (do
      let ov ← eval o X.env
      standAt apos.atName
      let (f, first) ← holding [ov] (getMethod ov m pl)
      callWith pos f first (backTo pos (starEach [] X.env)) (backToKw pos (keywordEach [] X.env)))) :
    PE X (.Call (.Attribute o m apos) [] [] pos) (TI X tb W (gMth B cf m ga gNil)) := by
  refine ⟨fun pins s σ H Q I hq => ?_⟩
  obtain ⟨ρ, env, h, S, E, F⟩ := hq
  refine PySem.W.methodCall_KW (pl := pl) (thn (ho.run pins s σ H (fun x H1 => ∃ ρ h1 v, Hst (sur X tb) ρ h1 H1 ∧ RepV X.K (Fz ρ h1 H1) ρ v x ∧ Fin (sur X tb) (at_ W σ) (RepV X.K) ρ h1 H1 (match look h1 v with
      | some (.obj c ts) => if (B.cls.contains c && B.mets.contains (c, m) && (ts.lookup m).isNone) = true then cf (.m c m) [v] h1 else .stuck
      | _ => .stuck) Q) I
    ⟨ρ, env, h, S, E, F.bind fun v h1 ρ1 H1 x S1 st1 r1 F1 => ⟨ρ1, h1, v, S1, r1, F1⟩⟩) fun u s1 ⟨x, H1, I1, rx, ρ1, h1, v, S1, r1, F1⟩ => ?_) ht
  split at F1
  · rename_i c ts el
    split at F1
    · rename_i hc
      simp only [Bool.and_eq_true, Option.isNone_iff_eq_none] at hc
      obtain ⟨⟨hc, hm⟩, hn⟩ := hc
      have hm' := contains_mem hm
      obtain ⟨a, dx, fs, rfl, ea, rf⟩ := look_obj S1 r1 el
      obtain rfl : u = Value.ref a := rx
      obtain ⟨f1, f2⟩ := FA.mets _ hm'
      have kp := (D.m _ hm').kp
      refine getmeth_ok I1 ea (FA.cls c hc).cls ⟨f1, f2, kp⟩ ((rf.lookup (f := m)).2 hn) ?_
      exact PySem.W.callWith_K0 (first := [.ref a]) I1.kIn kp (RunL.cons (run_call (D.m _ hm') hg hr tk) (show RelV (V.ref a) (Value.ref a) from rfl) r1 I1 .nil S1 Step.refl .nil F1)
    · exact F1.elim
  · exact F1.elim
end
end Py

set_option Elab.async false
set_option linter.all false
set_option maxRecDepth 100000
set_option maxHeartbeats 4000000
namespace Py
open PySem PySem.Spec PyProof.Rows L2 Lw LamX
/-! ### C(..) -/
def newEnd (keep : Bool) (n : Nat) (v : RV) (h2 : Hs) : Res RV := match v with
  | .t .non => if keep = true then .ok (.r n) h2 else match h2[n]? with
    | some d => .ok (.t d.tree) (h2.take n)
    | none => .stuck
  | _ => .stuck
def gNew (cf : CF) (c : Str) (keep : Bool) : List RV → M RV := fun args h => (cf (.m c "__init__") (.r h.length :: args) (h ++ [.ins c []])).bind fun v h2 => newEnd keep h.length v h2
section
variable {X : Cx} {tb : List (Addr × Str)} {W : WX}
theorem run_new {B : Tbl} {cf : CF} {k : Nat} {c : Str} {keep : Bool} (FA : Facts2 X.K B) (D : Defs X tb B k cf) (hc : B.cls.contains c = true) (hg : X.A.guards = some []) (hr : Room (k + 1) X.A) (tk : Takes X W) : RunL X tb W (fun us => call (.ref (He.ga X.K c)) us) (gNew cf c keep) := by
  intro pins s σ H xs us ρ h vs Q I rx S rs F
  obtain ⟨fd, ps, FG, hb, hn⟩ := (D.c c hc).2.ex
  have M := FA.mk_ c hc
  unfold gNew at F
  by_cases hl : (RV.r h.length :: vs).length = ps.length
  · have hlx : (V.ref (s.heap.objs.size + 1) :: xs).length = ps.length := by rw [← hl]; simp [rs.len]
    have hlu : (Value.ref (s.heap.objs.size + 1) :: us).length = ps.length := by rw [← hlx]; simp [rx.length]
    have I2 := Inv.made (C := He.ga X.K c) I
    have n1 : H (s.heap.objs.size + 1) = none := I.hok.fresh (Nat.le_succ _)
    have n0 : H s.heap.objs.size = none := I.hok.fresh (Nat.le_refl _)
    have ne : s.heap.objs.size + 1 ≠ s.heap.objs.size := Nat.succ_ne_self _
    have n1' : upd H s.heap.objs.size (.own (s.heap.objs.size + 1)) (s.heap.objs.size + 1) = none := by rw [upd_ne ne]; exact n1
    obtain ⟨S1, st1⟩ := S.grow (same_new (o := .own (s.heap.objs.size + 1)) n0)
    have own1 := S.growF (same_new (o := .own (s.heap.objs.size + 1)) n0) upd_same n0 (fun _ z => by cases z)
    obtain ⟨S2, st2⟩ := S1.cellNew (c := .ins c []) (o := .ins (He.ga X.K c) s.heap.objs.size []) n1' rfl ⟨s.heap.objs.size, [], upd_same, own1, .nil⟩
    have st := st1.trans st2
    have r0 : RepV X.K (Fz ⟨ρ.ad ++ [s.heap.objs.size + 1], ρ.ex⟩ (h ++ [.ins c []]) (upd (upd H s.heap.objs.size (.own (s.heap.objs.size + 1))) (s.heap.objs.size + 1) (.ins (He.ga X.K c) s.heap.objs.size []))) ⟨ρ.ad ++ [s.heap.objs.size + 1], ρ.ex⟩ (.r h.length) (.ref (s.heap.objs.size + 1)) :=
      ⟨s.heap.objs.size + 1, by show (ρ.ad ++ [s.heap.objs.size + 1])[h.length]? = _; rw [← S.len, List.getElem?_append_right (Nat.le_refl _), Nat.sub_self]; rfl, rfl⟩
    have eb := hb { s with heap := (s.heap.push PySem.W.emptyDict).push (PySem.W.instObj (He.ga X.K c) s.heap.objs.size) } (.ref (s.heap.objs.size + 1) :: us) I2.kIn (by rw [List.append_nil]; exact hlu)
    rw [List.append_nil] at eb
    have gd : (X.A.under (.builtin "type.__call__" ⟨.ref (He.ga X.K c) :: us, []⟩)).guards = some [] := by
      have e : Code.guards (.builtin "type.__call__" ⟨.ref (He.ga X.K c) :: us, []⟩) = [] := by
        have e2 : guardIds.contains "type.__call__" = false := by decide
        show (if guardIds.contains "type.__call__" = true then _ else _) = _
        rw [e2]
        rfl
      show pushGuards (Code.guards (.builtin "type.__call__" ⟨.ref (He.ga X.K c) :: us, []⟩)) X.A.guards = some []
      rw [e, hg]
      rfl
    refine wpAny_call (make_map (f := He.ma X.K (He.ga X.K c) "__init__") I.kIn M.makes M.init (beq_iff_eq.mp M.fn) (codeAny_mono (FG.run _ X.stack _ _ ⟨Value.ref (s.heap.objs.size + 1) :: us, []⟩ _ (V.ref (s.heap.objs.size + 1) :: xs) (fun v H2 => v = .non ∧ Q (.ref (s.heap.objs.size + 1)) H2) (at_ W σ) gd (hr.make _ us [])
      (I2.env0.make _ us []) eb (.cons rfl rx) ⟨hlx, _, _, _, S2, .cons r0 (rs.step st), ?_⟩) fun r s' hq' => ?_))
    · cases hcf : cf (.m c "__init__") (.r h.length :: vs) (h ++ [.ins c []]) with
      | stuck => rw [hcf] at F; exact F.elim
      | err c' t' h' => rw [hcf] at F; exact fun ρ' H' d x S' st' => F ρ' H' d x S' (st.trans st')
      | ok v h2 =>
        rw [hcf] at F
        intro ρ3 H3 b S3 st3 r3
        have F3 : Fin (sur X tb) (at_ W σ) (RepV X.K) ρ h H (newEnd keep h.length v h2) Q := F
        unfold newEnd at F3
        split at F3
        · cases r3
          refine ⟨rfl, ?_⟩
          obtain ⟨a, ea, era⟩ := r0.step st3
          cases era
          split at F3
          · exact F3 _ _ _ S3 (st.trans st3) ⟨_, ea, rfl⟩
          · split at F3
            · rename_i d ed
              obtain ⟨S4, st4, a', ea', r'⟩ := S3.freeze ed
              have z : a' = s.heap.objs.size + 1 := Option.some.inj (ea'.symm.trans ea)
              subst z
              obtain ⟨S5, st5, sm5⟩ := cut_step S S4 ((st.trans st3).trans st4)
              have e3 : (h2.set h.length (.fz d.tree)).take h.length = h2.take h.length := by
                rw [List.take_set, List.set_eq_of_length_le]
                rw [List.length_take]
                omega
              rw [e3] at S5 st5 sm5
              exact F3 _ _ _ S5 st5 (Rep.same sm5 r')
            · exact F3.elim
        · exact F3.elim
    · match r, hq' with
      | .error e, hq' => exact tk e s' (XE.of_call I2 (fun cls d H' z => z) hq')
      | .ok (.ret u), hq' =>
        obtain ⟨v, H', I3, rv, ev, q3⟩ := I2.after hq'
        subst ev
        exact ⟨rv, ⟨V.ref (s.heap.objs.size + 1), H', I3, rfl, q3⟩⟩
      | .ok .next, hq' => exact False.elim hq'
      | .ok .brk, hq' => exact False.elim hq'
      | .ok .cont, hq' => exact False.elim hq'
  · rw [hn _ _ hl] at F
    exact F.elim
end
end Py

set_option Elab.async false
set_option linter.all false
set_option maxRecDepth 100000
set_option maxHeartbeats 4000000
namespace Py
open PySem PySem.Spec PyProof.Rows L2 Lw LamX
/-! ### o.f = e -/
def putT (f : Str) (t : T) : List (Str × T) → List (Str × T)
  | [] => [(f, t)]
  | (k, u) :: r => if k = f then (k, t) :: r else (k, u) :: putT f t r
theorem RepF.putT {K : PySem.W.Frag} {F : Hp} {f : Str} {t : T} {v : V} (q : Rep K F t v) : ∀ {ts : List (Str × T)} {vs : List (Str × V)}, RepF K F ts vs → RepF K F (Py.putT f t ts) (putF f v vs)
  | _, _, .nil => .cons q .nil
  | _, _, .cons (k := k) h r => by
    unfold Py.putT putF
    by_cases e : k = f
    · subst e
      simp only [if_true, beq_self_eq_true]
      exact .cons q r
    · have e2 : (k == f) = false := by simpa using e
      simp only [if_neg e, e2]
      exact .cons h (r.putT q)
theorem RepF.len {K : PySem.W.Frag} {F : Hp} : ∀ {ts : List (Str × T)} {vs : List (Str × V)}, RepF K F ts vs → ts.length = vs.length
  | _, _, .nil => rfl
  | _, _, .cons _ r => congrArg (· + 1) r.len
def sPut (B : Tbl) (f : Str) (o e : Ev → M RV) : SM := fun env h => (e env h).sb env fun v h1 => (toT v h1).sb env fun t h2 => (o env h2).sb env fun w h3 => match w with
  | .r n => match h3[n]? with
    | some (.ins c ts) => if (B.cls.contains c && B.fld.contains (c, f) && decide (ts.length < 900)) = true then .next env (h3.set n (.ins c (putT f t ts))) else .stuck
    | _ => .stuck
  | _ => .stuck
section
variable {X : Cx} {tb : List (Addr × Str)} {W : WX}
theorem toT_finS {C : Sur} {ρ : Pl} {h : Hs} {H : Hp} {v : RV} {x : V} {env : Ev} {k : T → Hs → SRes} {D : Ends} (S : Hst C ρ h H) (r : RepV C.K (Fz ρ h H) ρ v x) (F : FinS C W ρ h H ((toT v h).sb env k) D) :
    ∃ t h1, Hst C ρ h1 H ∧ Step ρ h H ρ h1 H ∧ Rep C.K (Fz ρ h1 H) t x ∧ FinS C W ρ h1 H (k t h1) D := by
  cases e : toT v h with
  | ok t h1 =>
    obtain ⟨S1, st, q⟩ := toT_finE S r e
    rw [e] at F
    exact ⟨t, h1, S1, st, q, FinS.rebase (show FinS C W ρ h H (k t h1) D from F) st⟩
  | err c u h1 =>
    cases v with
    | t t => cases e
    | r n =>
      unfold toT at e
      dsimp only at e
      split at e <;> cases e
  | stuck => rw [e] at F; exact F.elim
theorem ps_put_ {B : Tbl} {o e : Expr} {f : Str} {p' pos : Pos} {go ge : Ev → M RV} (FA : Facts2 X.K B) (ho : PE X o (TI X tb W go)) (he : PE X e (TI X tb W ge)) (hs : swapsWith e (some (.Attribute o f p')) pos.line X.env = pure false) :
    PS X (.Assign [.Attribute o f p'] e pos) (TSI X tb W (sPut B f go ge)) := by
  refine ⟨fun pins s σ H D I hq => (ps_fld ho he hs).run pins s σ H D I ?_⟩
  obtain ⟨ρ, env, h, S, E, F⟩ := hq
  refine ⟨ρ, env, h, S, E, FinS.bind (C := sur X tb) E F fun v h1 ρ1 H1 y S1 st1 r1 F1 => ?_⟩
  obtain ⟨t, h2, S2, st2, r2, F2⟩ := toT_finS S1 r1 F1
  refine ⟨ρ1, env, h2, S2, E.step (st1.trans st2), FinS.bind (C := sur X tb) (E.step (st1.trans st2)) F2 fun w h3 ρ3 H3 x S3 st3 r3 F3 => ?_⟩
  split at F3
  · rename_i n
    split at F3
    · rename_i c ts ec
      split at F3
      · rename_i hc
        simp only [Bool.and_eq_true, decide_eq_true_eq] at hc
        obtain ⟨⟨hc, hf⟩, hl⟩ := hc
        obtain ⟨a, ea, rfl⟩ := r3
        obtain ⟨dx, vs, e1, e2, rf⟩ := S3.cell n a _ ea ec
        have hl2 := rf.len
        refine ⟨a, _, dx, vs, rfl, e1, (FA.cls c hc).cls, FA.fld _ (contains_mem hf), by omega, ?_⟩
        have r2' : Rep X.K (Fz ρ3 h3 H3) t y := r2.same st3.same
        obtain ⟨S4, st4⟩ := S3.write (o := .ins (He.ga X.K c) dx (putF f y vs)) (d := .ins c (putT f t ts)) ea ec rfl rfl (fun _ z => by cases z) ⟨dx, _, upd_same, e2, rf.putT r2'⟩
        exact F3 _ _ _ S4 st4 (E.step (((st1.trans st2).trans st3).trans st4))
      · exact F3.elim
    · exact F3.elim
  · exact F3.elim
/-! ### operators of own classes -/
theorem rep_ty {K : PySem.W.Frag} {B : Tbl} {H : Hp} {t : T} {x : V} {g : Tag} (FA : Facts K B) (r : Rep K H t x) (e : B.tag t = some g) (ne : ∀ c u, t ≠ .err c u) : TyX K H x (g.val K) := by
  cases r with
  | non => cases e; exact .base .non
  | bl b => cases e; exact .base (.bl b)
  | int i => cases e; exact .base (.int i)
  | str y => cases e; exact .base (.str y)
  | tup q _ =>
    cases e
    rcases q with (q | ⟨o, q⟩) | ⟨o, its, n, q1, q2, _⟩
    · exact .base (.tup q)
    · exact .fTuple q
    · exact .kTuple q1 q2
  | lst q _ => cases e; exact .base (.lst q)
  | scr q _ =>
    cases e
    rcases q with (q | ⟨o, q⟩) | ⟨o, its, n, q1, q2, _⟩
    · exact .base (.lst q)
    · exact .base (.frz q)
    · exact .kList q1 q2
  | dct q _ =>
    cases e
    rcases q with q | ⟨o, q⟩
    · exact .base (.dK q)
    · exact .fDict q
  | obj h1 h2 r =>
    rename_i a dx c ts fs
    unfold Tbl.tag at e
    dsimp only at e
    split at e
    · rename_i hc
      cases e
      have F := FA.cls c hc
      exact .base (.ins h1 F.cls F.ca F.cg F.ct F.cm)
    · cases e
  | err _ _ => exact absurd rfl (ne _ _)
  | fn => cases e
  | clT => cases e
  | clO => cases e
def notErr : T → Bool
  | .err _ _ => false
  | _ => true
theorem notErr_ne {t : T} (h : notErr t = true) : ∀ c u, t ≠ .err c u := fun c u e => by subst e; cases h
def ownB (B : Tbl) (cf : CF) (m : Str) : RV → RV → M RV := fun v w h => match look h v, look h w with
  | some (.obj c _), some (.obj d _) => if (B.cls.contains c && B.mets.contains (c, m) && decide (c = d)) = true then cf (.m c m) [v, w] h else .stuck
  | _, _ => .stuck
theorem run_ownB {B : Tbl} {cf : CF} {k : Nat} {op : Operator} {m : Str} (FA : Facts2 X.K B) (D : Defs X tb B k cf) (hg : X.A.guards = some []) (hr : Room k X.A) (tk : Takes X W) (hm : PySem.dunder op.info.2 = m) : Run2 X tb W (binaryOp op) (ownB B cf m) := by
  intro pins s σ H x y u w ρ h v1 v2 Q I rx ry S r1 r2 F
  unfold ownB at F
  split at F
  · rename_i c ts d us e1 e2
    split at F
    · rename_i hc
      simp only [Bool.and_eq_true, decide_eq_true_eq] at hc
      obtain ⟨⟨hc, hmm⟩, rfl⟩ := hc
      have hmm' := contains_mem hmm
      obtain ⟨a, dx, fs, rfl, ha, _⟩ := look_obj S r1 e1
      obtain ⟨b, dy, gs, rfl, hb, _⟩ := look_obj S r2 e2
      cases (show u = Value.ref a from rx)
      cases (show w = Value.ref b from ry)
      obtain ⟨ox, od, J⟩ := ins_inst I ha
      obtain ⟨oy, oe, J'⟩ := ins_inst I hb
      obtain ⟨m', fr⟩ := I.fr
      obtain ⟨f1, f2⟩ := FA.mets _ hmm'
      subst hm
      refine PySem.W.binop_K fr I.ok.mod.kin J J'.type (FA.cls c hc).nf f1 f2 (wpAny_mono (run_call (D.m _ hmm') hg hr tk pins s σ H [.ref a, .ref b] [.ref a, .ref b] ρ h [v1, v2] Q I (.cons rfl (.cons rfl .nil)) S (.cons r1 (.cons r2 .nil)) F) (fun w s' z => ?_) fun _ _ z => z)
      obtain ⟨z', H', I', rz, qz⟩ := z
      exact SlX.cmpback rz ⟨z', H', I', rz, qz⟩
    · exact F.elim
  · exact F.elim
def ownIn (B : Tbl) (cf : CF) : RV → RV → M RV := fun v w h => match look h w with
  | some (.obj c _) => if (B.cls.contains c && B.mets.contains (c, "__contains__")) = true then (cf (.m c "__contains__") [w, v] h).bind fun r h1 => (asB r h1).bind fun b h2 => .ok (.t (.bl b)) h2 else .stuck
  | _ => .stuck
theorem run_ownIn {B : Tbl} {cf : CF} {k : Nat} (FA : Facts2 X.K B) (D : Defs X tb B k cf) (hg : X.A.guards = some []) (hr : Room k X.A) (tk : Takes X W) : Run2 X tb W (compareOp .In) (ownIn B cf) := by
  intro pins s σ H x y u w ρ h v1 v2 Q I rx ry S r1 r2 F
  unfold ownIn at F
  split at F
  · rename_i c ts e1
    split at F
    · rename_i hc
      simp only [Bool.and_eq_true] at hc
      obtain ⟨hc, hmm⟩ := hc
      have hmm' := contains_mem hmm
      obtain ⟨b, dy, gs, rfl, hb, _⟩ := look_obj S r2 e1
      cases (show w = Value.ref b from ry)
      obtain ⟨oy, oe, J⟩ := ins_inst I hb
      obtain ⟨m', fr⟩ := I.fr
      obtain ⟨f1, f2⟩ := FA.mets _ hmm'
      refine PySem.W.in_K fr I.ok.mod.kin J f1 f2 (wpAny_mono (run_call (D.m _ hmm') hg hr tk pins s σ H [.ref b, x] [.ref b, u] ρ h [v2, v1] (fun r H' => ∃ c, r = .bl c ∧ Q (.bl c) H') I (.cons rfl (.cons rx .nil)) S (.cons r2 (.cons r1 .nil)) (F.bind fun r h1 ρ1 H1 z S1 st1 rz F1 => ?_)) (fun w s' z => ?_) fun _ _ z => z)
      · unfold asB at F1
        split at F1
        · cases rz
          exact ⟨_, rfl, F1 _ _ _ S1 Step.refl (.bl _)⟩
        · exact F1.elim
      · obtain ⟨z', H', I', rz, c', rfl, qz⟩ := z
        cases (show w = Value.bool c' from rz)
        exact wpAny_truthy_bool ⟨.bl c', H', I', rfl, qz⟩
    · exact F.elim
  · exact F.elim
/-- == by an own class's def -/
def ownEq (B : Tbl) (cf : CF) : RV → RV → M RV := fun v w h => match look h v, look h w with
  | some (.obj c _), some u => match B.tag u with
    | some g => if (B.cls.contains c && B.mets.contains (c, "__eq__") && B.nfs.contains (c, g) && notErr u) = true then cf (.m c "__eq__") [v, w] h else .stuck
    | none => .stuck
  | _, _ => .stuck
theorem run_ownEq {B : Tbl} {cf : CF} {k : Nat} (FA : Facts2 X.K B) (D : Defs X tb B k cf) (hg : X.A.guards = some []) (hr : Room k X.A) (tk : Takes X W) : Run2 X tb W (compareOp .Eq) (ownEq B cf) := by
  intro pins s σ H x y u w ρ h v1 v2 Q I rx ry S r1 r2 F
  unfold ownEq at F
  split at F
  · rename_i c ts t e1 e2
    split at F
    · rename_i g eg
      split at F
      · rename_i hc
        simp only [Bool.and_eq_true] at hc
        obtain ⟨⟨⟨hc, hmm⟩, hnf⟩, hne⟩ := hc
        have hmm' := contains_mem hmm
        obtain ⟨a, dx, fs, rfl, ha, _⟩ := look_obj S r1 e1
        cases (show u = Value.ref a from rx)
        obtain ⟨ox, od, J⟩ := ins_inst I ha
        obtain ⟨P, Z, p, _⟩ := kit_of I ry (rep_ty FA.toFacts (r2.look S e2) eg (notErr_ne hne))
        obtain ⟨m', fr⟩ := I.fr
        obtain ⟨f1, f2⟩ := FA.mets _ hmm'
        have hu : X.A.units < cLine := by have := hr.un; omega
        show wpAny _ _ (richCompare .Eq (.ref a) w) _ _ _
        refine PySem.W.cmp_K (op := .Eq) hu fr I.ok.mod.kin J (Z.ty _ _ I.kIn p) (FA.nfs _ (contains_mem hnf)) f1 f2 (wpAny_mono (run_call (D.m _ hmm') hg hr tk pins s σ H [.ref a, y] [.ref a, w] ρ h [v1, v2] Q I (.cons rfl (.cons ry .nil)) S (.cons r1 (.cons r2 .nil)) F) (fun w s' z => ?_) fun _ _ z => z)
        obtain ⟨z', H', I', rz, qz⟩ := z
        exact SlX.cmpback rz ⟨z', H', I', rz, qz⟩
      · exact F.elim
    · exact F.elim
  · exact F.elim
/-- != by an own class's == -/
def ownNe (B : Tbl) (cf : CF) : RV → RV → M RV := fun v w h => match look h v, look h w with
  | some (.obj c _), some u => match B.tag u with
    | some g => if (B.cls.contains c && B.mets.contains (c, "__eq__") && B.nfs.contains (c, g) && notErr u) = true then (cf (.m c "__eq__") [v, w] h).bind fun r h1 => (asB r h1).bind fun b h2 => .ok (.t (.bl (!b))) h2 else .stuck
    | none => .stuck
  | _, _ => .stuck
theorem run_ownNe {B : Tbl} {cf : CF} {k : Nat} (FA : Facts2 X.K B) (D : Defs X tb B k cf) (hg : X.A.guards = some []) (hr : Room (k + 1) X.A) (tk : Takes X W) : Run2 X tb W (compareOp .NotEq) (ownNe B cf) := by
  intro pins s σ H x y u w ρ h v1 v2 Q I rx ry S r1 r2 F
  unfold ownNe at F
  split at F
  · rename_i c ts t e1 e2
    split at F
    · rename_i g eg
      split at F
      · rename_i hc
        simp only [Bool.and_eq_true] at hc
        obtain ⟨⟨⟨hc, hmm⟩, hnf⟩, hne⟩ := hc
        have hmm' := contains_mem hmm
        obtain ⟨a, dx, fs, rfl, ha, _⟩ := look_obj S r1 e1
        cases (show u = Value.ref a from rx)
        obtain ⟨ox, od, J⟩ := ins_inst I ha
        obtain ⟨P, Z, p, _⟩ := kit_of I ry (rep_ty FA.toFacts (r2.look S e2) eg (notErr_ne hne))
        obtain ⟨f1, f2⟩ := FA.mets _ hmm'
        have hu : X.A.units + 1 < cLine := by have := hr.un; omega
        show wpAny _ _ (richCompare .NotEq (.ref a) w) _ _ _
        refine ne_K hu I.kIn J (Z.ty _ _ I.kIn p) (FA.nfs _ (contains_mem hnf)) (FA.cls c hc).cm (FA.ne c hc) f1 f2 ?_
        obtain ⟨fd, ps, FG, hb, hn⟩ := (D.m _ hmm').ex
        by_cases hl : [v1, v2].length = ps.length
        · have eb := hb s [.ref a, w] I.kIn (by rw [List.append_nil]; exact hl)
          rw [List.append_nil] at eb
          refine wpAny_call (codeAny_mono (FG.run X.A.in1 X.stack s H ⟨[.ref a, w], []⟩ [.ref a, w] [.ref a, y] (fun r H' => ∃ c, r = .bl c ∧ Q (.bl (!c)) H') (at_ W σ) hg hr.in1 I.env0.in1 eb (.cons rfl (.cons ry .nil)) ⟨hl, ρ, h, [v1, v2], S, .cons r1 (.cons r2 .nil), F.bind fun r h1 ρ1 H1 z S1 st1 rz F1 => ?_⟩) fun res s' hq => ?_)
          · unfold asB at F1
            split at F1
            · cases rz
              exact ⟨_, rfl, F1 _ _ _ S1 Step.refl (.bl _)⟩
            · exact F1.elim
          · match res, hq with
            | .error er, hq => exact tk er s' (XE.of_call I (fun cls d H' z => z) hq)
            | .ok (.ret u), hq =>
              obtain ⟨z', H', I', rz, c', rfl, qz⟩ := I.after hq
              cases (show u = Value.bool c' from rz)
              exact ⟨c', rfl, .bl (!c'), H', I', rfl, qz⟩
            | .ok .next, hq => exact hq.elim
            | .ok .brk, hq => exact hq.elim
            | .ok .cont, hq => exact hq.elim
        · rw [hn _ _ hl] at F
          exact F.elim
      · exact F.elim
    · exact F.elim
  · exact F.elim
/-- which of the two: by what the first value is -/
def bySelf (f g : RV → RV → M RV) : RV → RV → M RV := fun v w h => match look h v with
  | some (.obj _ _) => f v w h
  | _ => g v w h
theorem run_bySelf {op : Value → Value → Sem Value} {f g : RV → RV → M RV} (a : Run2 X tb W op f) (b : Run2 X tb W op g) : Run2 X tb W op (bySelf f g) := by
  intro pins s σ H x y u w ρ h v1 v2 Q I rx ry S r1 r2 F
  unfold bySelf at F
  split at F
  · exact a pins s σ H x y u w ρ h v1 v2 Q I rx ry S r1 r2 F
  · exact b pins s σ H x y u w ρ h v1 v2 Q I rx ry S r1 r2 F
def byThat (f g : RV → RV → M RV) : RV → RV → M RV := fun v w h => match look h w with
  | some (.obj _ _) => f v w h
  | _ => g v w h
theorem run_byThat {op : Value → Value → Sem Value} {f g : RV → RV → M RV} (a : Run2 X tb W op f) (b : Run2 X tb W op g) : Run2 X tb W op (byThat f g) := by
  intro pins s σ H x y u w ρ h v1 v2 Q I rx ry S r1 r2 F
  unfold byThat at F
  split at F
  · exact a pins s σ H x y u w ρ h v1 v2 Q I rx ry S r1 r2 F
  · exact b pins s σ H x y u w ρ h v1 v2 Q I rx ry S r1 r2 F
/-! ### C.m(..) of a static def -/
theorem pe_stat_ {B : Tbl} {cf : CF} {k : Nat} {x m : Str} {np apos pos : Pos} {e : Expr} {es : List Expr} {gs : Ev → M (List RV)} {pl : Sem Bool} (FA : Facts2 X.K B) (D : Defs X tb B k cf) (hgd : X.A.guards = some []) (hr : Room k X.A) (tk : Takes X W) (hc : B.cls.contains x = true) (hm : B.stats.contains (x, m) = true) (hg : Gl X x) (ha : PA X (e :: es) (TAI X tb W gs))
    (hdb : (x == ("__debug__" : Str)) = false) (he : starEach (e :: es) X.env = (false, eval e X.env) :: starEach es X.env) (hpl : (backTo pos (starEach es X.env)).any (·.1) = false)
    (ht : eval (.Call (.Attribute (.Name x np) m apos) (e :: es) [] pos) X.env = (do
      let ov ← eval (.Name x np) X.env
      standAt apos.atName
      let (f, first) ← holding [ov] (getMethod ov m pl)
      callWith pos f first (backTo pos (starEach (e :: es) X.env)) (backToKw pos (keywordEach [] X.env)))) : PE X (.Call (.Attribute (.Name x np) m apos) (e :: es) [] pos) (TI X tb W (gL (cf (.m x m)) gs)) := by
  refine ⟨fun pins s σ H Q I hq => ?_⟩
  obtain ⟨ρ, env, h, S0, E, F⟩ := hq
  have hm' := contains_mem hm
  have S := FA.stats _ hm'
  have G := run_call (D.s _ hm') hgd hr tk
  refine PySem.W.methodCall_KW (pl := pl) (ld_glob I hg (D.c x hc).1 ?_ hdb) ht
  obtain ⟨rest, hrec⟩ := S.sm
  refine PySem.W.method_cls I.kIn S.attr (PySem.W.cls_bind I.kIn S.reads S.find (wpAny_call (PySem.W.sm_get (s := { s with toks := s.toks + 1 }) I.kIn hrec (PySem.W.handed_on S.hand ?_))))
  have I2 : Inv X pins σ H { s with toks := s.toks + 1 } := I.tok _
  exact PySem.W.callWith_K (h₀ := X.base) I2.ok.mod.kin S.kp (args_run ha G I2 S0 E F) he hpl
end
end Py

set_option Elab.async false
set_option linter.all false
set_option maxRecDepth 100000
set_option maxHeartbeats 4000000
namespace Py
open PySem PySem.Spec PyProof.Rows L2 Lw LamX
/-! ### raise C(e), C an own error -/
/-- what the errors' one __init__ does -/
def spErr (K : PySem.W.Frag) : Sp := fun vs H Q _ => ∃ (a C : Addr) (v : V), vs = [.ref a, v] ∧ OexC K C ∧ PySem.W.findIn K (.ref C) "value" = some none ∧ H a = some (exo a C none) ∧
  ∀ (d : Addr) (H' : Hp), H d = none → H' a = some (exo a C (some d)) → H' d = some (exd d [("value", v)]) → (∀ b o, H b = some o → b ≠ a → H' b = some o) → Q .non H'
theorem spErr_reads {K : PySem.W.Frag} {vs : List V} {H : Hp} {Q : VK} {E : XK} (h : spErr K vs H Q E) : tOst K "value" (tVar 0) (tVar 1) { nx := fun _ H' => Q .non H', rt := Q } (start ["self", "value"] vs) H := by
  obtain ⟨a, C, v, rfl, T, hno, ea, k⟩ := h
  refine ⟨_, rfl, _, rfl, a, C, rfl, T, hno, .inl ⟨ea, fun dx n ne => k dx _ n upd_same (by rw [upd_ne ne]; exact upd_same) fun b o e hb => ?_⟩⟩
  rw [upd_ne hb, upd_ne (ne_of_none e n)]
  exact e
/-- the errors' __init__, in its place -/
structure ErrI (X : Cx) (B : Tbl) (f : Addr) : Prop where
  ok : ∃ fd, FnOk X.prog X.w X.K X.mg X.base (L2.CX X.prog X.w) 1 f fd ["self", "value"] (spErr X.K) ∧ Binds X.K fd ["self", "value"] []
  ty : PySem.W.typeIn X.K (.ref f) = some (.type "function")
  at_ : ∀ c, B.errs.contains c = true → PySem.W.findIn X.K (.ref (He.ga X.K c)) "__init__" = some (some (.ref f)) ∧ X.mg c = some (.ref (He.ga X.K c))
def sRaise (c : Str) (gs : Ev → M (List RV)) : SM := fun env h => (gs env h).sb env fun vs h1 => match vs with
  | [v] => (toT v h1).sb env fun t h2 => .err c t env h2
  | _ => .stuck
section
variable {X : Cx} {tb : List (Addr × Str)} {W : WX}
theorem ps_raise_ {B : Tbl} {f : Addr} {c : Str} {e : Expr} {es : List Expr} {p pos pos2 : Pos} {gs : Ev → M (List RV)} (FA : Facts2 X.K B) (EI : ErrI X B f) (hc : B.errs.contains c = true) (hcalm : X.calm = true) (tk : Takes X W) (hr : Room 2 X.A) (hg : Gl X c) (ha : PA X (e :: es) (TAI X tb W gs))
    (hdb : (c == ("__debug__" : Str)) = false) (he : starEach (e :: es) X.env = (false, eval e X.env) :: starEach es X.env) (hpl : (backTo pos (starEach es X.env)).any (·.1) = false) :
    PS X (.Raise (some (.Call (.Name c p) (e :: es) [] pos)) none pos2) (TSI X tb W (sRaise c gs)) := by
  obtain ⟨fd, FW, bW⟩ := EI.ok
  have T := FA.errs c hc
  obtain ⟨iC, mC⟩ := EI.at_ c hc
  refine ⟨fun pins s σ H D I hq => (ps_raise hcalm tk (pmk_oex T.ox iC EI.ty FW hr bW .nil (fun pins σ H s er s' I2 h => by
    obtain ⟨_, _, _, _, _, _, _, _, _, _, _, _, z⟩ := h
    exact z.elim) hg mC ha hdb he hpl)).run pins s σ H D I ?_⟩
  obtain ⟨ρ, env, h, S, E, F⟩ := hq
  refine ⟨ρ, env, h, S, E, FinS.bind (C := sur X tb) E F fun vs h1 ρ1 H1 xs S1 st1 r1 F1 => ?_⟩
  split at F1
  · rename_i v
    cases r1 with
    | cons r1 r2 =>
    cases r2
    rename_i x
    obtain ⟨t, h2, S2, st2, r3, F2⟩ := toT_finS S1 r1 F1
    refine ⟨by show 1 ≤ 1000; decide, fun a na => ⟨a, _, x, rfl, T.ox, T.nv, upd_same, fun d H' nd h1' h2' kp => ⟨rfl, d, _, h1', h2', ?_, ?_⟩⟩⟩
    · cases z : H1 d with
      | none => rfl
      | some o =>
        rw [upd_ne (ne_of_none z na), z] at nd
        cases nd
    · have sm : Same H1 (upd (del H' a) d (.xd [("value", x)])) := fun b o ec => by
        have nba : b ≠ a := ne_of_none ec na
        have nbd : b ≠ d := fun z => by
          rw [← z, upd_ne nba, ec] at nd
          cases nd
        rw [upd_ne nbd, del_ne nba]
        exact kp b o (by rw [upd_ne nba]; exact ec) nba
      obtain ⟨S3, st3⟩ := S2.grow sm
      exact F2 _ _ d x _ S3 st3 (E.step ((st1.trans st2).trans st3)) upd_same (r3.same st3.same)
  · exact F1.elim
end
end Py

set_option Elab.async false
set_option linter.all false
set_option maxRecDepth 100000
set_option maxHeartbeats 4000000
namespace Py
open PySem PySem.Spec PyProof.Rows L2 Lw LamX
section
variable {X : Cx} {tb : List (Addr × Str)} {W : WX}
/-! ### classes as values, isinstance -/
theorem pe_clT_ {x : Str} {n : String} {pos : Pos} (hg : Gl X x) (hm : X.mg x = none) (hv : bootBuiltins x = some (.type n)) (hn : x ≠ "__name__") (hdb : (x == ("__debug__" : Str)) = false) : PE X (.Name x pos) (TI X tb W (gC (.cl (.ty n)))) :=
  pe_const_ (pe_bltn hg hm hv (v := .ty n) rfl hn hdb) fun _ => .clT
theorem pe_clO_ {x : Str} {pos : Pos} (hg : Gl X x) (hm : X.mg x = some (.ref (He.ga X.K x))) (hdb : (x == ("__debug__" : Str)) = false) : PE X (.Name x pos) (TI X tb W (gC (.cl (.own x)))) :=
  pe_const_ (pe_glob hg hm (v := .ref (He.ga X.K x)) rfl hdb) fun _ => .clO
theorem run_isa {B : Tbl} (FA : Facts2 X.K B) : RunL X tb W (fun us => call (.builtin "isinstance") us) (gR2 (fIs B)) := by
  refine run_r2 (fun t u r e => ?_) fun H t u r x y Q q1 q2 e qr => ?_
  · unfold fIs at e
    split at e
    · rw [Option.map_eq_some_iff] at e
      obtain ⟨b, _, rfl⟩ := e
      rfl
    · cases e
  · unfold fIs at e
    split at e
    · rename_i c
      rw [Option.map_eq_some_iff] at e
      obtain ⟨b, e, rfl⟩ := e
      rw [Option.bind_eq_some_iff] at e
      obtain ⟨g, e1, e2⟩ := e
      have k := FA.isA e2
      have cv : ClsV y (c.val X.K) := by
        cases q2 with
        | clT => exact .ty _
        | clO => exact .own _
      by_cases ne : notErr t = true
      · exact ⟨_, call_isi, x, y, _, _, b, rfl, cv, rep_ty FA.toFacts q1 e1 (notErr_ne ne), k, qr⟩
      · cases q1 with
        | err h1 r =>
          unfold Tbl.tag at e1
          dsimp only at e1
          split at e1
          · rename_i hc
            cases e1
            exact ⟨_, call_isHeld X.K rfl, _, _, _, _, _, b, rfl, h1, FA.errs _ hc, cv, k, qr⟩
          · cases e1
        | _ => exact absurd rfl ne
    · cases e
/-! ### tuple, list, sorted -/
theorem look_list {C : Sur} {ρ : Pl} {h : Hs} {H : Hp} (S : Hst C ρ h H) {v : RV} {x : V} {t : T} {ts : List T} (r : RepV C.K (Fz ρ h H) ρ v x) (e : look h v = some t) (es : listOf t = some ts) : ∃ a xs, x = .ref a ∧ SqL C.K H a xs ∧ Reps C.K (Fz ρ h H) ts xs := by
  cases v with
  | t u =>
    cases e
    cases r with
    | lst h1 r => cases es; exact ⟨_, _, rfl, SqL.of (Fz.le _ _ h1), r⟩
    | scr h1 r => cases es; exact ⟨_, _, rfl, Same.seq Fz.le h1, r⟩
    | _ => cases es
  | r n =>
    obtain ⟨a, ea, rfl⟩ := r
    simp only [look, Option.map_eq_some_iff] at e
    obtain ⟨c, ec, e⟩ := e
    have q := S.cell n a c ea ec
    cases c with
    | lst xs =>
      cases e
      cases es
      obtain ⟨vs, e, r⟩ := q
      exact ⟨a, vs, rfl, SqL.of e, r⟩
    | dct kts => cases e; cases es
    | ins c ts => cases e; cases es
    | fz t' =>
      cases (show t' = t from e)
      obtain ⟨y, hy⟩ : ∃ y, y = V.ref a := ⟨_, rfl⟩
      have q' : Rep C.K (Fz ρ h H) t y := by rw [hy]; exact q
      cases q' with
      | lst h1 r => cases es; cases hy; exact ⟨_, _, rfl, SqL.of (Fz.le _ _ h1), r⟩
      | scr h1 r => cases es; cases hy; exact ⟨_, _, rfl, Same.seq Fz.le h1, r⟩
      | _ => cases es
def gTupT : List RV → M RV
  | [v] => fun h => match look h v with
    | some (.tup ts) => .ok (.t (.tup ts)) h
    | some t => match listOf t with
      | some ts => fresh false (.tup ts) h
      | none => .stuck
    | none => .stuck
  | _ => fun _ => .stuck
theorem run_tup : RunL X tb W (fun us => call (.type "tuple") us) gTupT := by
  refine RunL.cases fun σ H xs ρ h vs Q S r F => ?_
  unfold gTupT at F
  split at F
  · rename_i v
    cases r with
    | cons r1 rs =>
    cases rs
    split at F
    · rename_i ts e
      obtain ⟨a, xs, rfl, hs, rr⟩ := look_repsT S r1 e
      exact ⟨_, call_tuple_of, a, xs, rfl, .inr ⟨sqT_same Fz.le hs, F.rep S (.tup hs rr)⟩⟩
    · rename_i t _ e
      split at F
      · rename_i ts el
        obtain ⟨a, xs, rfl, hs, rr⟩ := look_list S r1 e el
        exact ⟨_, call_tuple_of, a, xs, rfl, .inl ⟨hs, (fresh_tup S rr F).2⟩⟩
      · exact F.elim
    · exact F.elim
  · exact F.elim
def keyT : Key → T
  | .inl i => .int i
  | .inr x => .str x
def gList (hp : Bool) : List RV → M RV
  | [v] => fun h => match look h v with
    | some (.dct kts) => fresh hp (.lst (kts.map fun p => keyT p.1)) h
    | some t => match seqOf t with
      | some ts => fresh hp (.lst ts) h
      | none => .stuck
    | none => .stuck
  | _ => fun _ => .stuck
theorem reps_keys {K : PySem.W.Frag} {F : Hp} : ∀ {kts : List (Key × T)} {kvs : List (Key × V)}, RepK K F kts kvs → Reps K F (kts.map fun p => keyT p.1) (kvs.map fun kv => kV kv.1)
  | _, _, .nil => .nil
  | _, _, .cons (k := k) _ r => .cons (by cases k with | inl i => exact .int i | inr x => exact .str x) (reps_keys r)
theorem run_list {hp : Bool} (hc : X.calm = true) : RunL X tb W (fun us => call (.type "list") us) (gList hp) := by
  refine RunL.cases fun σ H xs ρ h vs Q S r F => ?_
  unfold gList at F
  split at F
  · rename_i v
    cases r with
    | cons r1 rs =>
    cases rs
    split at F
    · rename_i kts e
      obtain ⟨a, kvs, rfl, hd, rk⟩ := look_dct S r1 e
      exact ⟨_, call_listD hc, a, kvs, rfl, hd, (fresh_lst S (reps_keys rk) F).2⟩
    · rename_i t _ e
      split at F
      · rename_i ts el
        obtain ⟨a, xs, rfl, hs, rr⟩ := look_seq S r1 e el
        exact ⟨_, call_list_of, a, xs, rfl, hs, (fresh_lst S rr F).2⟩
      · exact F.elim
    · exact F.elim
  · exact F.elim
def gSorted (hp : Bool) : List RV → M RV
  | [v] => fun h => match ((look h v).bind listOf).bind (allOf intOf) with
    | some ns => if ns.length < 64 then fresh hp (.lst ((isort ns).map .int)) h else .stuck
    | none => .stuck
  | _ => fun _ => .stuck
theorem run_sorted {hp : Bool} : RunL X tb W (fun us => call (.builtin "sorted") us) (gSorted hp) := by
  refine RunL.cases fun σ H xs ρ h vs Q S r F => ?_
  unfold gSorted at F
  split at F
  · rename_i v
    cases r with
    | cons r1 rs =>
    cases rs
    split at F
    · rename_i ns e
      rw [Option.bind_eq_some_iff] at e
      obtain ⟨ts, e, e3⟩ := e
      rw [Option.bind_eq_some_iff] at e
      obtain ⟨t, e1, e2⟩ := e
      split at F
      · rename_i hl
        obtain ⟨a, xs, rfl, hs, rr⟩ := look_list S r1 e1 e2
        have ex := rr.ints e3
        subst ex
        refine ⟨_, cr_sorted, a, ns, rfl, hs, hl, fun ns' p h1 h2 np => ?_⟩
        rw [isort_eq h1 h2]
        exact (fresh_lst S (reps_ints _) F).2 p np
      · exact F.elim
    · exact F.elim
  · exact F.elim
/-- sorted(set(t)), t a tuple of ints -/
def insU (k : Int) : List Int → List Int
  | [] => [k]
  | x :: r => if k < x then k :: x :: r else if k = x then x :: r else x :: insU k r
def uniqI : List Int → List Int
  | [] => []
  | k :: r => insU k (uniqI r)
def gSortedSet (hp : Bool) : List RV → M RV
  | [v] => fun h => match look h v with
    | some (.tup ts) => match allOf intOf ts with
      | some ns => if ns.length < 64 then fresh hp (.lst ((uniqI ns).map .int)) h else .stuck
      | none => .stuck
    | _ => .stuck
  | _ => fun _ => .stuck
theorem strict_same : ∀ {xs ys : List Int}, xs.Pairwise (· < ·) → ys.Pairwise (· < ·) → (∀ k, k ∈ xs ↔ k ∈ ys) → xs = ys := by
  intro xs ys h1 h2 h
  have p1 : xs.Nodup := h1.imp fun h => Int.ne_of_lt h
  have p2 : ys.Nodup := h2.imp fun h => Int.ne_of_lt h
  have pm : xs.Perm ys := (List.perm_ext_iff_of_nodup p1 p2).mpr h
  exact PySem.W.ksm_same pm (h1.imp fun h => Int.le_of_lt h) (h2.imp fun h => Int.le_of_lt h)
theorem insU_mem {k j : Int} : ∀ {l : List Int}, j ∈ insU k l ↔ j = k ∨ j ∈ l
  | [] => by simp [insU]
  | x :: r => by
    unfold insU
    split
    · simp
    · split
      · rename_i e
        subst e
        simp
      · rw [List.mem_cons, insU_mem, List.mem_cons]
        constructor
        · rintro (h | h | h) <;> simp [h]
        · rintro (h | h | h) <;> simp [h]
theorem insU_lt {k : Int} : ∀ {l : List Int}, l.Pairwise (· < ·) → (insU k l).Pairwise (· < ·)
  | [], _ => by simp [insU]
  | x :: r, h => by
    unfold insU
    rw [List.pairwise_cons] at h
    split
    · rename_i lt
      refine List.pairwise_cons.mpr ⟨fun y hy => ?_, List.pairwise_cons.mpr h⟩
      rcases List.mem_cons.mp hy with rfl | hy
      · exact lt
      · exact Int.lt_trans lt (h.1 y hy)
    · split
      · exact List.pairwise_cons.mpr h
      · refine List.pairwise_cons.mpr ⟨fun y hy => ?_, insU_lt h.2⟩
        rcases insU_mem.mp hy with rfl | hy
        · omega
        · exact h.1 y hy
theorem uniqI_lt : ∀ (ns : List Int), (uniqI ns).Pairwise (· < ·)
  | [] => .nil
  | _ :: r => insU_lt (uniqI_lt r)
theorem uniqI_mem {k : Int} : ∀ {ns : List Int}, k ∈ uniqI ns ↔ k ∈ ns
  | [] => by simp [uniqI]
  | x :: r => by
    unfold uniqI
    rw [insU_mem, uniqI_mem, List.mem_cons]
theorem insU_len {k : Int} : ∀ {l : List Int}, (insU k l).length ≤ l.length + 1
  | [] => by simp [insU]
  | x :: r => by
    unfold insU
    split
    · simp
    · split
      · simp
      · have := insU_len (k := k) (l := r)
        simp only [List.length_cons]
        omega
theorem uniqI_len : ∀ (ns : List Int), (uniqI ns).length ≤ ns.length
  | [] => Nat.le_refl _
  | k :: r => by
    have h1 := insU_len (k := k) (l := uniqI r)
    have h2 := uniqI_len r
    unfold uniqI
    simp only [List.length_cons]
    omega
theorem pe_ssort_ {hp : Bool} {p q pos pos2 : Pos} {e : Expr} {gs : Ev → M (List RV)} (hc : X.calm = true) (hg : Gl X "sorted") (hm : X.mg "sorted" = none) (hg2 : Gl X "set") (hm2 : X.mg "set" = none) (ha : PA X [e] (TAI X tb W gs))
    (h1 : starEach [.Call (.Name "set" q) [e] [] pos2] X.env = (false, eval (.Call (.Name "set" q) [e] [] pos2) X.env) :: starEach [] X.env) (h2 : starEach [e] X.env = (false, eval e X.env) :: starEach [] X.env) :
    PE X (.Call (.Name "sorted" p) [.Call (.Name "set" q) [e] [] pos2] [] pos) (TI X tb W (gL (gSortedSet hp) gs)) := by
  refine ⟨fun pins s σ H Q I hq => (pe_callB (cr_sortedSet hc) hg hm rfl (pa_cons (pe_callTy (cr_setT hc) hg2 hm2 rfl ha (he := h2) (hpl := rfl)) pa_nil) (he := h1) (hpl := rfl)).run pins s σ H Q I ?_⟩
  obtain ⟨ρ, env, h, S, E, F⟩ := hq
  refine ⟨ρ, env, h, S, E, F.bind fun vs h1 ρ1 H1 xs S1 st1 r1 F1 => ?_⟩
  unfold gSortedSet at F1
  split at F1
  · rename_i v
    cases r1 with
    | cons r1 rs =>
    cases rs
    split at F1
    · rename_i ts e1
      split at F1
      · rename_i ns e2
        split at F1
        · rename_i hl
          obtain ⟨a, xs, rfl, hs, rr⟩ := look_repsT S1 r1 e1
          have ex := rr.ints e2
          subst ex
          refine ⟨a, ns, rfl, sqT_same Fz.le hs, ?_, fun p n np hn => ⟨p, _, n, rfl, upd_same, by omega, fun ms q h3 h4 h5 nq => ?_⟩⟩
          · show ns.length + 1 < _
            have : (100 : Nat) < scanBound := by decide
            omega
          · have em : ms = uniqI ns := strict_same h3 (uniqI_lt ns) fun k => by
              rw [uniqI_mem, h4 k]
              simp
            rw [em]
            obtain ⟨S2, st2⟩ := S1.grow (same_new (o := SetO X.w p (fun j => decide (j ∈ ns)) n) np)
            exact (fresh_lst S2 (reps_ints _) (F1.rebase st2)).2 q nq
        · exact F1.elim
      · exact F1.elim
    · exact F1.elim
  · exact F1.elim
/-! ### list(range(..)), tuple(range(..)), list(zip(..)) -/
theorem reps_rng {K : PySem.W.Frag} {F : Hp} {i j : Int} : Reps K F (rngT i j) (rgV i j) := by
  unfold rngT rgV
  generalize List.range (j - i).toNat = l
  induction l with
  | nil => exact .nil
  | cons k l ih => exact .cons (.int _) ih
def rgB (i j : Int) : Bool := inRg i && inRg j && decide ((j - i).toNat ≤ 2 ^ 24)
theorem rgB_ok {i j : Int} (h : rgB i j = true) : RgOk i j := by
  unfold rgB at h
  simp only [Bool.and_eq_true, decide_eq_true_eq] at h
  obtain ⟨⟨h1, h2⟩, h3⟩ := h
  exact ⟨(inRg_ok h1).1, (inRg_ok h1).2, (inRg_ok h2).1, (inRg_ok h2).2, h3⟩
def gRg1 (hp : Bool) (mk : List T → T) (a : Ev → M RV) : Ev → M RV := fun env h => (a env h).bind fun v h1 => match v with
  | .t (.int n) => if rgB 0 n = true then fresh hp (mk (rngT 0 n)) h1 else .stuck
  | _ => .stuck
def gRg2 (hp : Bool) (mk : List T → T) (a b : Ev → M RV) : Ev → M RV := fun env h => (a env h).bind fun v h1 => (b env h1).bind fun w h2 => match v, w with
  | .t (.int i), .t (.int j) => if rgB i j = true then fresh hp (mk (rngT i j)) h2 else .stuck
  | _, _ => .stuck
theorem pe_listRg1_ {hp : Bool} {a : Expr} {p p2 pos pos2 : Pos} {g : Ev → M RV} (hc : X.calm = true) (hg : Gl X "list") (hm : X.mg "list" = none) (hg2 : Gl X "range") (hm2 : X.mg "range" = none) (ha : PE X a (TI X tb W g)) (h1 : starEach [.Call (.Name "range" p2) [a] [] pos2] X.env = (false, eval (.Call (.Name "range" p2) [a] [] pos2) X.env) :: starEach [] X.env) (h2 : starEach [a] X.env = (false, eval a X.env) :: starEach [] X.env) :
    PE X (.Call (.Name "list" p) [.Call (.Name "range" p2) [a] [] pos2] [] pos) (TI X tb W (gRg1 hp .lst g)) := by
  refine ⟨fun pins s σ H Q I hq => (pe_listRg hc hg hm (prg_1 hg2 hm2 ha h2) h1).run pins s σ H Q I ?_⟩
  obtain ⟨ρ, env, h, S, E, F⟩ := hq
  refine ⟨ρ, env, h, S, E, F.bind fun v h1 ρ1 H1 x S1 st1 r1 F1 => ?_⟩
  split at F1
  · split at F1
    · rename_i hb
      cases r1
      exact ⟨_, rfl, rgB_ok hb, (fresh_lst S1 reps_rng F1).2⟩
    · exact F1.elim
  · exact F1.elim
theorem pe_tupRg1_ {hp : Bool} {a : Expr} {p p2 pos pos2 : Pos} {g : Ev → M RV} (hc : X.calm = true) (hg : Gl X "tuple") (hm : X.mg "tuple" = none) (hg2 : Gl X "range") (hm2 : X.mg "range" = none) (ha : PE X a (TI X tb W g)) (h1 : starEach [.Call (.Name "range" p2) [a] [] pos2] X.env = (false, eval (.Call (.Name "range" p2) [a] [] pos2) X.env) :: starEach [] X.env) (h2 : starEach [a] X.env = (false, eval a X.env) :: starEach [] X.env) :
    PE X (.Call (.Name "tuple" p) [.Call (.Name "range" p2) [a] [] pos2] [] pos) (TI X tb W (gRg1 hp .tup g)) := by
  refine ⟨fun pins s σ H Q I hq => (pe_tupRg hc hg hm (prg_1 hg2 hm2 ha h2) h1).run pins s σ H Q I ?_⟩
  obtain ⟨ρ, env, h, S, E, F⟩ := hq
  refine ⟨ρ, env, h, S, E, F.bind fun v h1 ρ1 H1 x S1 st1 r1 F1 => ?_⟩
  split at F1
  · split at F1
    · rename_i hb
      cases r1
      exact ⟨_, rfl, rgB_ok hb, (fresh_tup S1 reps_rng F1).2⟩
    · exact F1.elim
  · exact F1.elim
theorem rg2_fin {mk : List T → T} {hp : Bool} {a b : Expr} {ga gb : Ev → M RV} {P : Int → Int → Hp → Prop} {σ : L2.St} {H : Hp} {Q : VK} (hq : TI X tb W (gRg2 hp mk ga gb) σ H Q)
    (k : ∀ (i j : Int) (ρ : Pl) (h : Hs) (H1 : Hp), Hst (sur X tb) ρ h H1 → rgB i j = true → Fin (sur X tb) (at_ W σ) (RepV X.K) ρ h H1 (fresh hp (mk (rngT i j)) h) Q → P i j H1) : tRg2 (TI X tb W ga) (TI X tb W gb) σ H P := by
  obtain ⟨ρ, env, h, S, E, F⟩ := hq
  refine ⟨ρ, env, h, S, E, F.bind fun v h1 ρ1 H1 x S1 st1 r1 F1 => ⟨ρ1, env, h1, S1, E.step st1, F1.bind fun w h2 ρ2 H2 y S2 st2 r2 F2 => ?_⟩⟩
  split at F2
  · split at F2
    · rename_i hb
      cases r1
      cases r2
      exact ⟨_, _, rfl, rfl, k _ _ ρ2 h2 H2 S2 hb F2⟩
    · exact F2.elim
  · exact F2.elim
theorem pe_listRg2_ {hp : Bool} {a b : Expr} {p p2 pos pos2 : Pos} {ga gb : Ev → M RV} (hc : X.calm = true) (hg : Gl X "list") (hm : X.mg "list" = none) (hg2 : Gl X "range") (hm2 : X.mg "range" = none) (ha : PE X a (TI X tb W ga)) (hb : PE X b (TI X tb W gb)) (h1 : starEach [.Call (.Name "range" p2) [a, b] [] pos2] X.env = (false, eval (.Call (.Name "range" p2) [a, b] [] pos2) X.env) :: starEach [] X.env) (h2 : starEach [a, b] X.env = (false, eval a X.env) :: starEach [b] X.env) (h3 : starEach [b] X.env = (false, eval b X.env) :: starEach [] X.env) (h4 : ((backTo pos2 (starEach [b] X.env)).any fun x => x.fst) = false) :
    PE X (.Call (.Name "list" p) [.Call (.Name "range" p2) [a, b] [] pos2] [] pos) (TI X tb W (gRg2 hp .lst ga gb)) :=
  ⟨fun pins s σ H Q I hq => (pe_listRg hc hg hm (prg_2 hg2 hm2 ha hb h2 h3 h4) h1).run pins s σ H Q I (rg2_fin (a := a) (b := b) hq fun i j ρ h H1 S hb F => ⟨rgB_ok hb, (fresh_lst S reps_rng F).2⟩)⟩
theorem pe_tupRg2_ {hp : Bool} {a b : Expr} {p p2 pos pos2 : Pos} {ga gb : Ev → M RV} (hc : X.calm = true) (hg : Gl X "tuple") (hm : X.mg "tuple" = none) (hg2 : Gl X "range") (hm2 : X.mg "range" = none) (ha : PE X a (TI X tb W ga)) (hb : PE X b (TI X tb W gb)) (h1 : starEach [.Call (.Name "range" p2) [a, b] [] pos2] X.env = (false, eval (.Call (.Name "range" p2) [a, b] [] pos2) X.env) :: starEach [] X.env) (h2 : starEach [a, b] X.env = (false, eval a X.env) :: starEach [b] X.env) (h3 : starEach [b] X.env = (false, eval b X.env) :: starEach [] X.env) (h4 : ((backTo pos2 (starEach [b] X.env)).any fun x => x.fst) = false) :
    PE X (.Call (.Name "tuple" p) [.Call (.Name "range" p2) [a, b] [] pos2] [] pos) (TI X tb W (gRg2 hp .tup ga gb)) :=
  ⟨fun pins s σ H Q I hq => (pe_tupRg hc hg hm (prg_2 hg2 hm2 ha hb h2 h3 h4) h1).run pins s σ H Q I (rg2_fin (a := a) (b := b) hq fun i j ρ h H1 S hb F => ⟨rgB_ok hb, (fresh_tup S reps_rng F).2⟩)⟩
def gZipL : List RV → M RV
  | [v, w] => fun h => match look h v, look h w with
    | some (.tup xs), some (.tup ys) => if xs.length = ys.length ∧ xs.length < sizeLine then .ok (.t (.lst (zipT xs ys))) h else .stuck
    | _, _ => .stuck
  | _ => fun _ => .stuck
theorem pairs_reps {K : PySem.W.Frag} {F : Hp} : ∀ {ts us : List T} {xs ys : List V} {Ts : List Addr}, Reps K F ts xs → Reps K F us ys → Paired (fun T p => F T = some (HO.tup [p.1, p.2])) Ts (xs.zip ys) → Reps K F (zipT ts us) (Ts.map V.ref)
  | _, _, _, _, _, .nil, _, p => by
    rw [List.zip_nil_left] at p
    cases p
    unfold zipT
    rw [List.zip_nil_left]
    exact .nil
  | _, _, _, _, _, .cons _ _, .nil, p => by
    rw [List.zip_nil_right] at p
    cases p
    unfold zipT
    rw [List.zip_nil_right]
    exact .nil
  | _, _, _, _, _, .cons h1 r1, .cons h2 r2, p => by
    rw [List.zip_cons_cons] at p
    cases p with
    | cons q p => exact .cons (.tup (SqT.of q) (.cons h1 (.cons h2 .nil))) (pairs_reps r1 r2 p)
theorem pe_listZip_ {a b : Expr} {p p2 pos pos2 : Pos} {gs : Ev → M (List RV)} (hc : X.calm = true) (hg : Gl X "list") (hm : X.mg "list" = none) (hg2 : Gl X "zip") (hm2 : X.mg "zip" = none) (ha : PA X [a, b] (TAI X tb W gs)) (h1 : starEach [.Call (.Name "zip" p2) [a, b] [] pos2] X.env = (false, eval (.Call (.Name "zip" p2) [a, b] [] pos2) X.env) :: starEach [] X.env) (h2 : starEach [a, b] X.env = (false, eval a X.env) :: starEach [b] X.env) (h4 : ((backTo pos2 (starEach [b] X.env)).any fun x => x.fst) = false) :
    PE X (.Call (.Name "list" p) [.Call (.Name "zip" p2) [a, b] [] pos2] [] pos) (TI X tb W (gL gZipL gs)) := by
  refine ⟨fun pins s σ H Q I hq => (pe_listZip hc hg hm hg2 hm2 ha h1 rfl h2 h4).run pins s σ H Q I ?_⟩
  obtain ⟨ρ, env, h, S, E, F⟩ := hq
  refine ⟨ρ, env, h, S, E, F.bind fun vs h1 ρ1 H1 xs S1 st1 r1 F1 => ?_⟩
  unfold gZipL at F1
  split at F1
  · rename_i v w
    cases r1 with
    | cons q1 r1 =>
    cases r1 with
    | cons q2 r1 =>
    cases r1
    split at F1
    · rename_i ts us e1 e2
      split at F1
      · rename_i hl
        obtain ⟨x, xs, rfl, hs1, rs1⟩ := look_repsT S1 q1 e1
        obtain ⟨y, ys, rfl, hs2, rs2⟩ := look_repsT S1 q2 e2
        refine ⟨x, y, xs, ys, rfl, sqT_same Fz.le hs1, sqT_same Fz.le hs2, by rw [← rs1.len, ← rs2.len]; exact hl.1, by rw [← rs1.len]; exact hl.2, fun q Ts H2 sm nq eq pr => ?_⟩
        obtain ⟨S2, st2⟩ := S1.grow sm
        refine F1 _ _ _ S2 st2 (.lst (S1.growF sm eq nq fun _ z => by cases z) (pairs_reps (rs1.same st2.same) (rs2.same st2.same) ?_))
        exact paired_map (fun T p h => S1.growF sm h.2 h.1 fun _ z => by cases z) pr
      · exact F1.elim
    · exact F1.elim
  · exact F1.elim
/-! ### xs.index(x) -/
def mIndex : RV → List RV → M RV
  | v, [w] => fun h => match (look h v).bind T.toD, (look h w).bind T.toD with
    | some (.list ds), some d => if (SeqAt.shaped (.list ds) && SeqAt.shaped d) = true then match ds.findIdx? fun z => z.eqv d with
        | some j => .ok (.t (.int (j : Nat))) h
        | none => .stuck
      else .stuck
    | _, _ => .stuck
  | _, _ => fun _ => .stuck
theorem run_index (hu : X.A.units + 65 < cLine) : RunM X tb W "list.index" mIndex := by
  refine RunM.cases fun σ H x xs ρ h v vs Q S r rs F => ?_
  unfold mIndex at F
  split at F
  · rename_i w
    cases rs with
    | cons r1 rs =>
    cases rs
    split at F
    · rename_i ds d e1 e2
      rw [Option.bind_eq_some_iff] at e1 e2
      obtain ⟨t, l1, d1⟩ := e1
      obtain ⟨u, l2, d2⟩ := e2
      split at F
      · rename_i hc
        rw [Bool.and_eq_true] at hc
        split at F
        · rename_i j ej
          have q1 := (r.look S l1).dp d1
          have q2 := (r1.look S l2).dp d2
          rw [List.findIdx?_eq_some_iff_getElem] at ej
          obtain ⟨hj, hz, hno⟩ := ej
          obtain ⟨a, rfl⟩ : ∃ a, x = V.ref a := by cases q1; exact ⟨_, rfl⟩
          refine ⟨_, mt_indexD hu, a, _, d, ds, j, ds[j], rfl, rfl, q1, q2, hc.1, hc.2, List.getElem?_eq_getElem hj, hz, fun m z' hm ez => ?_, F.flat S rfl⟩
          have hm2 : m < ds.length := Nat.lt_trans hm hj
          rw [List.getElem?_eq_getElem hm2] at ez
          cases ez
          have := hno m hm
          simpa using this
        · exact F.elim
      · exact F.elim
    · exact F.elim
  · exact F.elim
end
end Py

set_option Elab.async false
set_option linter.all false
set_option maxRecDepth 100000
set_option maxHeartbeats 4000000
/-! LwLam's call, guards known. -/
namespace Lw
open PySem PySem.Spec PyProof.Rows L2 LamX
section
variable {X : Cx} {pins : List (Addr × Obj)} {σ : L2.St} {H HZ : Hp} {s s1 : Shared}
/-- a(), in the def that got the lambda: Z is that def's context, entered at s -/
theorem pe_actG {CXg : CXT} {Eg : XK} {Ng : List Str} {qg : Str} {sg : Scope} {g f : Addr} {cdg : Value} {n : Nat} {fam : Nat → LamD} {t : Nat → XK → TE} {k i : Nat} {a : Str} {pn : List (Addr × Obj)} {xe : Value → Shared → Prop} {W : WX} {p1 p2 : Pos} (I : Inv X pins σ H s)
    (L : ∀ j, j < n → LamS X.env.scope (fam j).scope) (hbind : ∀ j, j < n → ∀ (q : Str) (cl : List (Str × Addr)) (pm cv ctv : Value), bindArgs (PySem.W.kla_fn "<lambda>" q (fam j).params (fam j).body (fam j).scope cl pm cv ctv) ⟨[], []⟩ = pure [])
    (tk : Takes ((cxOf CXg X.prog X.w X.K X.mg X.base Ng qg sg g cdg X.A X.stack s H Eg).tr pn xe) W) (hr : Room (k + 1) (X.A.deeper (envOfC qg sg s.heap.objs.size g cdg)))
    (hbody : ∀ j, j < n → ∀ (A : Around) (outer : List Env) (s : Shared) (H : Hp) (E : XK) (c' : Addr), A.guards = some [] → Room k (A.deeper (lamEnv X (fam j).scope s.heap.objs.size f c')) → PE (lamCx X A outer s H E (fam j).scope f c') (fam j).body (t j E))
    (hgd : X.A.guards = some []) (hN : Ng[i]? = some a) (hv : Vis sg a) (hd : (a == ("__debug__" : Str)) = false := by decide) (hcd : (a == ("__classdict__" : Str)) = false := by decide) :
    PE ((cxOf CXg X.prog X.w X.K X.mg X.base Ng qg sg g cdg X.A X.stack s H Eg).tr pn xe) (.Call (.Name a p1) [] [] p2)
      (fun σZ HZ Q => σZ[i]? = some (some (.ref f)) ∧ ∃ (j : Nat) (c' : Addr) (E : XK), j < n ∧ HZ f = some (LamO X.env.qual X.env.cells (fam j) c' f) ∧ HZ c' = some (CodeO c' (X.env.qual ++ "<lambda>")) ∧ (∀ cls d H', E cls d H' → W cls d σZ H') ∧ t j E σ HZ Q) := by
  refine ⟨fun pinsZ sZ σZ HZ Q IZ h => ?_⟩
  obtain ⟨hs, j, c', E, hj, hL, hc, hW, ht⟩ := h
  refine wpAny_Call_Name_kw (thn ((pe_var (pos := p1) (i := i) hN hv hd hcd).run pinsZ sZ σZ HZ (fun v H1 => v = .ref f ∧ H1 = HZ) IZ ⟨.ref f, hs, rfl, rfl⟩) fun u s1 hh => ?_)
  obtain ⟨v, H1, I1, r1, ev, eH⟩ := hh
  subst ev
  rw [eH] at I1
  obtain rfl : u = Value.ref f := r1
  obtain ⟨⟨pm, ctv, of1⟩, _, _⟩ := I1.hok f _ hL
  refine PySem.W.callWith_F0 ⟨_, _, _, _, of1⟩ ?_
  have un : Un (frs X.stack) [] H HZ s.heap s1.heap := I1.base
  obtain ⟨⟨oc, vs, tt, hoc, hdc, hvc⟩, _, _⟩ := I1.hok c' _ hc
  have rc : codeAny (model X.prog X.w) (X.A.deeper (envOfC qg sg s.heap.objs.size g cdg)) (.call (.ref f) ⟨[], []⟩) (CR (L2.CX X.prog X.w) (envOfC qg sg s.heap.objs.size g cdg :: X.stack) X.prog X.w HZ s1 Q E) s1 := by
    refine PySem.W.kla_callFunE hr.depth of1 rfl (L j hj).co (L j hj).gen rfl ⟨c', oc, vs, tt, rfl, hoc, hdc, hvc⟩ ?_
    rw [hbind j hj]
    refine wpAny_pure (wpAny_newFunctionEnv (fun y hy => ((L j hj).own y hy).2) (fun y hy => absurd hy (by simp)) (fun h₁ hns hsb => ⟨I1.nolimit.fresh _ hsb, ?_⟩) (L j hj).kind)
    show codeAny _ _ (.expr (fam j).body (lamEnv X (fam j).scope s1.heap.objs.size f c')) _ _
    have kp : ∀ b o, s1.heap.get? b = some o → h₁.get? b = some o := fun b o e => hsb.extBut b o (Nat.ne_of_lt (Heap.lt_size e)) (Heap.get?_push_of_some _ e)
    have J : Inv (lamCx X (X.A.deeper (envOfC qg sg s.heap.objs.size g cdg)) (envOfC qg sg s.heap.objs.size g cdg :: X.stack) s1 HZ E (fam j).scope f c') [] σ HZ { s1 with heap := h₁, toks := s1.toks + ([] : List (Str × Value)).length } :=
      lam_start2 I (L j hj) I1.env0 hr.hd un hns kp
    refine PySem.W.kla_codeExpr (wpAny_mono ((hbody j hj _ _ s1 HZ E c' (show (X.A.deeper (envOfC qg sg s.heap.objs.size g cdg)).guards = some [] from hgd) (hr.deeper _)).run [] _ _ HZ Q J ht) (fun v s' hq => ?_) fun e s' hq => hq)
    obtain ⟨w', H', J', rv, q⟩ := hq
    exact ⟨w', H', J'.os, J'.bare, J'.base, J'.hok, rv, q⟩
  refine wpAny_call (codeAny_mono rc fun r s' hq => ?_)
  cases r with
  | error e => exact tk e s' (XE.of_call I1 (fun cls d H' h => hW cls d H' h) hq)
  | ok fl =>
    cases fl with
    | ret u => exact I1.after hq
    | next => exact False.elim hq
    | brk => exact False.elim hq
    | cont => exact False.elim hq
end
theorem pe_toldG {X : Cx} {TT : (XK → Hp → VK → Prop) → Hp → VK → Prop} {x a : Str} {g : Addr} {k n : Nat} {pg : Arguments} {bg : List Stmt} {sg : Scope} {fd : FuncData} {Ng : List Str} {fam : Nat → LamD} {t : Nat → XK → TE} {e : Expr} {te : TE} {p pos : Pos} (hg : Gl X x) (hm : X.mg x = some (.ref g))
    (F : FunD X.K x x pg bg sg [] [] g fd) (hb : Binds X.K fd [a] []) (Sg : FnScope Ng [a] sg) (hNg : Ng[0]? = some a) (hva : Vis sg a) (hG : ∀ cdg : Value, Calls2 X Ng x sg g cdg bg a TT) (hr : Room (k + 2) X.A) (L : ∀ j, j < n → LamS X.env.scope (fam j).scope)
    (hbind : ∀ j, j < n → ∀ (q : Str) (cl : List (Str × Addr)) (pm cv ctv : Value), bindArgs (PySem.W.kla_fn "<lambda>" q (fam j).params (fam j).body (fam j).scope cl pm cv ctv) ⟨[], []⟩ = pure [])
    (hbody : ∀ j, j < n → ∀ (A : Around) (outer : List Env) (s : Shared) (H : Hp) (E : XK) (f c' : Addr), A.guards = some [] → Room k (A.deeper (lamEnv X (fam j).scope s.heap.objs.size f c')) → PE (lamCx X A outer s H E (fam j).scope f c') (fam j).body (t j E)) (he : PE X e te) (hgd : X.A.guards = some [])
    (hs : starEach [e] X.env = (false, eval e X.env) :: starEach [] X.env := by rfl) (hdb : (x == ("__debug__" : Str)) = false := by decide) (hd : (a == ("__debug__" : Str)) = false := by decide) (hcd : (a == ("__classdict__" : Str)) = false := by decide) :
    PE X (.Call (.Name x p) [e] [] pos) (tTold X n fam t TT te) := by
  refine ⟨fun pins s σ H Q I h => ?_⟩
  refine wpAny_Call_Name_kw (ld_glob I hg hm ?_ hdb)
  refine PySem.W.callWith_K (h₀ := X.base) I.ok.mod.kin F.kp ?_ hs (by rfl)
  rw [hs]
  show wpAny _ _ (spliced ((false, eval e X.env) :: backTo pos (starEach [] X.env))) _ _ s
  refine Calls.spliced_cons (thn (he.run pins s σ H _ I h) fun u s' hh => ?_)
  obtain ⟨v, H1, I1, rv, f, c', j, rfl, hj, hL, hc, hT⟩ := hh
  cases (show u = Value.ref f from rv)
  refine Calls.spliced_nil ⟨I1.kIn, ?_⟩
  obtain ⟨oc, od, dV, kV, doc, pm, an, cdv, ct, osl, rfl, lk, hcd2, _, _⟩ := F.ex
  have rc : codeAny (model X.prog X.w) X.A (.call (.ref g) ⟨[.ref f], []⟩) (CR CX0 X.stack X.prog X.w H1 s' Q E0) s' := by
    refine LamX.run_ofS (N := Ng) (ps := [a]) (us := [.ref f]) (vs := [.ref f]) lk hcd2 Sg hr I1.env0 (hb s' [.ref f] I1.kIn rfl) (.cons rfl .nil) rfl fun hr' => ?_
    have act : ∀ (W : WX) (pn : List (Addr × Obj)) (xe : Value → Shared → Prop) (p1 p2 : Pos), Takes ((cxOf CX0 X.prog X.w X.K X.mg X.base Ng x sg g cdv X.A X.stack s' H1 E0).tr pn xe) W →
        PE ((cxOf CX0 X.prog X.w X.K X.mg X.base Ng x sg g cdv X.A X.stack s' H1 E0).tr pn xe) (.Call (.Name a p1) [] [] p2) (fun σZ HZ Q => σZ[0]? = some (some (.ref f)) ∧ Same H1 HZ ∧ ∃ E, (∀ cls d H', E cls d H' → W cls d σZ H') ∧ t j E σ HZ Q) := by
      intro W pn xe p1 p2 tk
      refine ⟨fun pinsZ sZ σZ HZ Q2 IZ h2 => ?_⟩
      obtain ⟨h3, sm, E, h4, h5⟩ := h2
      exact (pe_actG (i := 0) (p1 := p1) (p2 := p2) I1 L hbind tk hr' (fun j hj A outer s H E c' hg2 hr2 => hbody j hj A outer s H E f c' hg2 hr2) hgd hNg hva hd hcd).run pinsZ sZ σZ _ Q2 IZ ⟨h3, j, c', E, hj, sm _ _ hL, sm _ _ hc, h4, h5⟩
    obtain ⟨t', ht', hq'⟩ := hG cdv f s' H1 Q (fun E H' Q' => t j E σ H' Q') act hT
    exact ⟨t', ht'.nox, hq'⟩
  refine wpAny_call (codeAny_mono rc fun r s2 hq => ?_)
  cases r with
  | error e => exact (show False from hq).elim
  | ok fl =>
    cases fl with
    | ret u => exact I1.after hq
    | next => exact False.elim hq
    | brk => exact False.elim hq
    | cont => exact False.elim hq
end Lw

set_option Elab.async false
set_option linter.all false
set_option maxRecDepth 100000
set_option maxHeartbeats 4000000
namespace Py
open PySem PySem.Spec PyProof.Rows L2 Lw LamX
/-! ### a def that tells (the error of a call, what it brings) -/
def ToldE (K : PySem.W.Frag) (CW : Addr) (Q : VK) : XK := fun cls d H' => PySem.W.exmOne K cls (.ref CW) = some true ∧ ∀ a p : Addr, H' a = none → upd H' a (exv a cls d) p = none → Q (.ref p) (upd (upd H' a (exv a cls d)) p (.tup [.ref a, .non]))
def ToldV (Q : VK) : VK := fun v H' => ∀ p, H' p = none → Q (.ref p) (upd H' p (.tup [.non, v]))
def TTold (K : PySem.W.Frag) (CW : Addr) : (XK → Hp → VK → Prop) → Hp → VK → Prop := fun tl H Q => ∀ (H1 : Hp) (E : XK) (Kc : VK), Same H H1 → (∀ cls d H', ToldE K CW Q cls d H' → E cls d H') → (∀ v H', ToldV Q v H' → Kc v H') → tl E H1 Kc
def told (B : Tbl) (b : Str) (r : Res RV) : Res RV := match r with
  | .ok v h => (toT v h).bind fun t h1 => .ok (.t (.tup [.non, t])) h1
  | .err c t h => if B.exm.contains (c, b, true) = true then .ok (.t (.tup [.err c t, .non])) h else .stuck
  | .stuck => .stuck
def gTold (B : Tbl) (b : Str) (g : Ev → M RV) : Ev → M RV := fun env h => told B b (g env h)
section
variable {X : Cx} {tb : List (Addr × Str)} {W : WX}
theorem pe_told_ {B : Tbl} {b x a : Str} {g0 : Addr} {k : Nat} {pg : Arguments} {bg : List Stmt} {sg : Scope} {fd : FuncData} {Ng : List Str} {params : Arguments} {body : Expr} {scope : Scope} {g : Ev → M RV} {p pos lpos : Pos} {c P : Addr} (FA : Facts2 X.K B)
    (TB : TabB X.base X.mg c P) (hcode : X.env.code = .ref c) (hm0 : (P, X.env.qual ++ "<lambda>") ∈ tb) (hu : ∀ p ∈ tb, p.1 = P → p.2 = X.env.qual ++ "<lambda>") (hdef : defaultsOf params X.env = ([], []))
    (hg : Gl X x) (hm : X.mg x = some (.ref g0)) (F : FunD X.K x x pg bg sg [] [] g0 fd) (hb : Binds X.K fd [a] []) (Sg : FnScope Ng [a] sg) (hNg : Ng[0]? = some a) (hva : Vis sg a) (hG : ∀ cdg : Value, Calls2 X Ng x sg g0 cdg bg a (TTold X.K (He.ga X.K b))) (hr : Room (k + 2) X.A) (L : LamS X.env.scope scope)
    (hbind : ∀ (q : Str) (cl : List (Str × Addr)) (pm cv ctv : Value), bindArgs (PySem.W.kla_fn "<lambda>" q params body scope cl pm cv ctv) ⟨[], []⟩ = pure [])
    (hbody : ∀ (A : Around) (outer : List Env) (s : Shared) (H : Hp) (E : XK) (f c' : Addr), A.guards = some [] → Room k (A.deeper (lamEnv X scope s.heap.objs.size f c')) → PE (lamCx X A outer s H E scope f c') body (TI X tb (fun cls d _ H => E cls d H) g))
    (hs : starEach [.Lambda params body scope lpos] X.env = (false, eval (.Lambda params body scope lpos) X.env) :: starEach [] X.env) (hgd : X.A.guards = some []) (hdb : (x == ("__debug__" : Str)) = false) (hd : (a == ("__debug__" : Str)) = false) (hcd : (a == ("__classdict__" : Str)) = false) :
    PE X (.Call (.Name x p) [.Lambda params body scope lpos] [] pos) (TI X tb W (gTold B b g)) := by
  refine ⟨fun pins s σ H Q I hq => (pe_toldG (n := 1) (fam := fun _ => ⟨params, body, scope⟩) (t := fun _ E => TI X tb (fun cls d _ H => E cls d H) g) (TT := TTold X.K (He.ga X.K b)) hg hm F hb Sg hNg hva hG hr (fun _ _ => L) (fun _ _ => hbind)
    (fun _ _ => hbody) (pe_lamV (pos := lpos) TB hcode hm0 hu L hdef) hgd hs hdb hd hcd).run pins s σ H Q I ?_⟩
  obtain ⟨ρ, env, h, S, E, F⟩ := hq
  refine ⟨S.tabs, fun f c' H1 eN T1 nf hc => ⟨f, c', 0, rfl, Nat.one_pos, upd_same, ?_, fun H2 Ex Kc s2 kE kV => ?_⟩⟩
  · rw [upd_ne (ne_of_none hc nf)]
    exact hc
  obtain ⟨S1, st1⟩ := S.growN eN T1
  obtain ⟨S2, st2⟩ := S1.grow (same_new nf)
  obtain ⟨S3, st3⟩ := S2.grow s2
  have st := (st1.trans st2).trans st3
  refine ⟨ρ, env, h, S3, E.step st, ?_⟩
  have F1 : Fin (sur X tb) (at_ W σ) (RepV X.K) ρ h H2 (told B b (g env h)) Q := F.rebase st
  show Fin (sur X tb) _ (RepV X.K) ρ h H2 (g env h) Kc
  cases e : g env h with
  | ok v h1 =>
    rw [e] at F1
    refine fun ρ4 H4 y S4 st4 r4 => kV _ _ fun p np => ?_
    obtain ⟨t, h5, S5, st5, r5, F5⟩ := toT_fin S4 r4 (show Fin (sur X tb) (at_ W σ) (RepV X.K) ρ4 h1 H4 ((toT v h1).bind fun t h1 => .ok (.t (.tup [.non, t])) h1) Q from F1.rebase st4)
    obtain ⟨S6, st6⟩ := S5.grow (same_new (o := .tup [.non, y]) np)
    exact F5 _ _ _ S6 st6 (.tup (SqT.of (S5.growF (same_new np) upd_same np fun _ z => by cases z)) (.cons .non (.cons (r5.same st6.same) .nil)))
  | stuck => rw [e] at F1; exact F1.elim
  | err c t h1 =>
    rw [e] at F1
    unfold told at F1
    dsimp only at F1
    split at F1
    · rename_i hc
      refine fun ρ4 H4 d y S4 st4 ed r4 => kE _ _ _ ⟨FA.exm _ (contains_mem hc), fun a p na np => ?_⟩
      obtain ⟨S5, st5⟩ := S4.grow (same_new (o := exv a (.ref (He.ga X.K c)) (some d)) na)
      obtain ⟨S6, st6⟩ := S5.grow (same_new (o := .tup [.ref a, .non]) np)
      have ea := S4.growF (same_new (o := exv a (.ref (He.ga X.K c)) (some d)) na) upd_same na (fun _ z => by cases z)
      have ed2 : Fz ρ4 h1 H4 d = some (.xd [("value", y)]) := S4.frozen ed (fun z => z) fun _ z => by cases z
      refine F1 _ _ _ S6 (st4.trans (st5.trans st6)) (.tup (SqT.of (S5.growF (same_new np) upd_same np fun _ z => by cases z)) (.cons (.err ⟨d, st6.same _ _ ea, st6.same _ _ (st5.same _ _ ed2)⟩ (r4.same (st5.trans st6).same)) (.cons .non .nil)))
    · exact F1.elim
end
end Py

set_option Elab.async false
set_option linter.all false
set_option maxRecDepth 100000
set_option maxHeartbeats 4000000
namespace Py
open PySem PySem.Spec PyProof.Rows L2 Lw LamX
/-! ### t[::-1] -/
section
variable {prog : Program} {w : World} {A : Around} {E : Value → Shared → Prop} {s : Shared}
theorem sliceApplied_rev {sl : Addr} {vl vu vs : Value} {n : Nat} {Q : Int × Int × Nat → Shared → Prop} (hs : s.heap.IsSliceOf sl vl vu vs) (pl : IsPart vl none) (pu : IsPart vu none) (ps : IsPart vs (some (-1)))
    (h : Q ((n : Int) - 1, -1, n) s) : wpAny (model prog w) A (Builtin.Slice.sliceApplied (.ref sl) (pure (n : Int))) Q E s := by
  obtain ⟨os, hos, hcs, hds⟩ := id hs
  unfold Builtin.Slice.sliceApplied Builtin.Slice.sliceFields
  refine wpAny_bind (wpAny_bind (wpAny_field hos hds (x := vl) rfl (wpAny_bind (wpAny_field hos hds (x := vu) rfl (wpAny_bind (wpAny_field hos hds (x := vs) rfl (wpAny_pure ?_)))))))
  refine wpAny_bind (HT.slicePart_ ps ?_)
  show wpAny _ _ (if ((-1 : Int) == 0) = true then _ else _) _ _ s
  rw [if_neg (by decide)]
  refine wpAny_bind (HT.slicePart_ pl (wpAny_bind (HT.slicePart_ pu (wpAny_bind (wpAny_pure ?_)))))
  show wpAny _ _ (match Builtin.Slice.sliceAdjust none none (-1) (n : Int) with | (lo, hi) => pure (lo, (-1 : Int), Builtin.Slice.slicePlaces lo hi (-1))) _ _ s
  have e : Builtin.Slice.sliceAdjust none none (-1) (n : Int) = ((n : Int) - 1, -1) := by
    unfold Builtin.Slice.sliceAdjust
    simp
  rw [e]
  have e2 : Builtin.Slice.slicePlaces ((n : Int) - 1) (-1) (-1) = n := by
    unfold Builtin.Slice.slicePlaces
    simp
    try omega
  show wpAny _ _ (pure ((n : Int) - 1, (-1 : Int), Builtin.Slice.slicePlaces ((n : Int) - 1) (-1) (-1))) _ _ s
  rw [e2]
  exact wpAny_pure h
theorem pick_rev (xs : Array Value) : ((List.range xs.size).filterMap fun (k : Nat) => xs[((xs.size : Int) - 1 + (k : Int) * -1).toNat]?) = xs.toList.reverse := by
  have e : ∀ k ∈ List.range xs.size, xs[((xs.size : Int) - 1 + (k : Int) * -1).toNat]? = xs.toList.reverse[k]? := fun k hk => by
    have hk := List.mem_range.mp hk
    rw [List.getElem?_reverse (by simpa using hk)]
    have : ((xs.size : Int) - 1 + (k : Int) * -1).toNat = xs.toList.length - 1 - k := by
      rw [Array.length_toList]
      omega
    rw [this]
    simp
  have gen : ∀ (l : List Nat), (∀ k ∈ l, xs[((xs.size : Int) - 1 + (k : Int) * -1).toNat]? = xs.toList.reverse[k]?) → l.filterMap (fun (k : Nat) => xs[((xs.size : Int) - 1 + (k : Int) * -1).toNat]?) = l.filterMap fun k => xs.toList.reverse[k]? := fun l => by
    induction l with
    | nil => intro _; rfl
    | cons a l ih =>
      intro h
      rw [List.filterMap_cons, List.filterMap_cons, h a List.mem_cons_self, ih fun k hk => h k (List.mem_cons_of_mem _ hk)]
  rw [gen _ e]
  have : ∀ (l : List Value), (List.range l.length).filterMap (fun k => l[k]?) = l := fun l => by
    induction l with
    | nil => rfl
    | cons a l ih =>
      rw [List.length_cons, List.range_succ_eq_map, List.filterMap_cons]
      simp only [List.getElem?_cons_zero, List.filterMap_map]
      congr 1
  have z := this xs.toList.reverse
  rw [List.length_reverse, Array.length_toList] at z
  exact z
theorem getItem_tuple_rev {t sl : Addr} {items : Array Value} {vl vu vs : Value} {Q : Value → Shared → Prop} (ht : IsTup s.heap t items) (hs : s.heap.IsSliceOf sl vl vu vs) (pl : IsPart vl none) (pu : IsPart vu none) (ps : IsPart vs (some (-1)))
    (h : Q (.ref s.heap.objs.size) { s with heap := s.heap.push { cls := .type "tuple", data := .seq items.toList.reverse.toArray } })
    (hsz : items.size ≤ sizeLine) : wpAny (model prog w) A (getItem (.ref t) (.ref sl)) Q E s := by
  have htake : sizeOk (.seq items.toList.reverse.toArray) := by
    show items.toList.reverse.toArray.size ≤ sizeLine
    rw [List.size_toArray, List.length_reverse, Array.length_toList]
    exact hsz
  obtain ⟨os, hos, hcs, hds⟩ := id hs
  have hTs : s.TypeIs (.ref sl) "slice" := ⟨os, hos, hcs⟩
  unfold getItem
  try with_reducible refine wpAny_holding ?_
  first | refine wpAny_bind (wpAny_pure ?_) | skip
  refine wpAny_bind (wpAny_sequenceKey ht.typeIs (by decide) ?_)
  refine wpAny_bind (wpAny_callSpecial?_slot (name := Str.ofString "__getitem__") ht.typeIs PyProof.Rows.slot_tuple_getitem
    (wpAny_call_entry PyProof.Rows.slot_tuple_getitem ht.typeIs entry_tuple_getitem ?_ (args_tuple_getitem _ _)))
  show wpAny _ _ (Builtin.Tuple.tupleItemsOf (.ref t) >>= _) _ _ s
  refine wpAny_bind (tupleItemsOf_ ht ?_)
  refine wpAny_bind (wpAny_typeOf hTs ?_)
  rw [if_pos (by decide)]
  refine wpAny_bind (sliceApplied_rev hs pl pu ps ?_)
  have hno : ¬ ((((items.size : Int) - 1) == 0 && (-1 : Int) == 1 && items.size == items.size) = true) := by
    intro q
    rw [Bool.and_eq_true, Bool.and_eq_true] at q
    exact absurd q.1.2 (by decide)
  show wpAny _ _ (if (((items.size : Int) - 1) == 0 && (-1 : Int) == 1 && items.size == items.size) = true then _ else _) _ _ s
  rw [if_neg hno, pick_rev]
  first
    | exact wpAny_bind (m := Builtin.Tuple.tupleExact _) (wpAny_newObj_type (wpAny_pure ⟨_, rfl, wpAny_pure h⟩) htake)
    | exact wpAny_bind (m := Builtin.Tuple.tupleExact _) (wpAny_newObj_type (wpAny_bind (wpAny_pure (wpAny_pure ⟨_, rfl, wpAny_pure h⟩))) htake)
    | exact wpAny_bind (wpAny_bind (m := Builtin.Tuple.tupleExact _) (wpAny_newObj_type (wpAny_pure (wpAny_pure ⟨_, rfl, wpAny_pure h⟩)) htake))
    | exact wpAny_bind (wpAny_bind (m := Builtin.Tuple.tupleExact _) (wpAny_newObj_type (wpAny_pure ⟨_, rfl, wpAny_pure h⟩) htake))
end
def tRevA (K : PySem.W.Frag) (te : TE) : TE := fun σ H Q => te σ H fun x H1 => ∃ a xs, x = .ref a ∧ ((SqL K H1 a xs ∧ ∀ p, H1 p = none → Q (.ref p) (upd H1 p (.lst xs.reverse))) ∨ (SqT K H1 a xs ∧ ∀ p, H1 p = none → Q (.ref p) (upd H1 p (.tup xs.reverse))))
theorem pe_revA {X : Cx} {e : Expr} {te : TE} {k : Nat} {p1 p2 p3 pos : Pos} (he : PE X e te) : PE X (.Subscript e (.Slice none none (some (.UnaryOp .USub (.Constant (.int 1) k p1) p2)) p3) pos) (tRevA X.K te) := by
  refine ⟨fun pins s σ H Q I h => ?_⟩
  refine Subscript_ (thn (he.run pins s σ H _ I h) fun v s1 ⟨x, H1, I1, r1, q1⟩ => ?_)
  obtain ⟨a, xs, ex, q⟩ := q1
  subst ex
  cases r1
  have hst : PO X (some (.UnaryOp .USub (.Constant (.int 1) k p1) p2)) (tPart (tUn (rU fun i => .int (-i)) (tC (.int 1)))) := po_some (pe_un un_neg pe_int)
  refine wpAny_Slice (thn (po_none.run pins s1 σ H1 (fun o H2 => o = none ∧ H2 = H1) I1 ⟨rfl, rfl⟩) fun vl s2 ⟨l, H2, I2, pl, el, e2⟩ => ?_)
  subst el e2
  refine thn (po_none.run pins s2 σ H2 (fun o H3 => o = none ∧ H3 = H2) I2 ⟨rfl, rfl⟩) fun vu s3 ⟨u, H3, I3, pu, eu, e3⟩ => ?_
  subst eu e3
  refine thn (hst.run pins s3 σ H3 (fun o H4 => o = some (-1) ∧ H4 = H3) I3 ⟨1, rfl, -1, rfl, rfl, rfl⟩) fun vs s4 ⟨o, H4, I4, ps, eo, e4⟩ => ?_
  subst eo e4
  have I5 : Inv X pins σ H4 { s4 with heap := s4.heap.push { cls := .type "slice", data := .fields #[vl, vu, vs] } } := I4.kept (t' := s4.toks) fun b ob q => Heap.get?_push_of_some _ q
  show wpAny (model X.prog X.w) X.A (subscriptTail e (.Slice none none (some (.UnaryOp .USub (.Constant (.int 1) k p1) p2)) p3) (.ref a) (.ref s4.heap.objs.size)) (EP X pins σ Q) X.xe { s4 with heap := s4.heap.push { cls := .type "slice", data := .fields #[vl, vu, vs] } }
  rcases q with ⟨hx, q⟩ | ⟨hx, q⟩
  · obtain ⟨its, r, ht, hz⟩ := I5.list hx
    have hlen := r.length
    refine tail_any (ops := [.ref a, .ref s4.heap.objs.size]) ht.isList.typeIs (PySem.slot_list_getitem.lookup) ?_ (by with_unfolding_all rfl)
    refine wpAny_getItem_list_slice ht.isList (Heap.IsSliceOf.new _ vl vu vs) pl pu ps (by decide) ?_ (by rw [List.size_toArray]; omega)
    rw [PySem.W.krv_pick]
    refine ⟨.ref _, _, I5.laid (t' := s4.toks) (o := .lst xs.reverse) (fun b ob q => Heap.get?_push_of_some _ q) (Nat.le_refl _) ?_, rfl, q _ (I5.hok.fresh (Nat.le_refl _))⟩
    exact ⟨by rw [List.length_reverse]; exact hz, _, 0, r.reverse, Heap.get?_push_size _ rfl⟩
  · obtain ⟨its, r, ht, hz⟩ := I5.tuple hx
    have hlen := r.length
    refine tail_any (ops := [.ref a, .ref s4.heap.objs.size]) ht.typeIs (PyProof.Rows.slot_tuple_getitem.lookup) ?_ (by with_unfolding_all rfl)
    refine getItem_tuple_rev ht (Heap.IsSliceOf.new _ vl vu vs) pl pu ps ?_ (by rw [List.size_toArray]; omega)
    refine ⟨.ref _, _, I5.laid (t' := s4.toks) (o := .tup xs.reverse) (fun b ob q => Heap.get?_push_of_some _ q) (Nat.le_refl _) ?_, rfl, q _ (I5.hok.fresh (Nat.le_refl _))⟩
    exact ⟨by rw [List.length_reverse]; exact hz, _, r.reverse, IsTup.new _ _⟩
section
variable {X : Cx} {tb : List (Addr × Str)} {W : WX}
def gRev (hp : Bool) : RV → M RV := fun v h => match look h v with
  | some (.tup ts) => fresh false (.tup ts.reverse) h
  | some t => match listOf t with
    | some ts => fresh hp (.lst ts.reverse) h
    | none => .stuck
  | none => .stuck
theorem pe_rev_ {hp : Bool} {e : Expr} {k : Nat} {p1 p2 p3 pos : Pos} {g : Ev → M RV} (he : PE X e (TI X tb W g)) : PE X (.Subscript e (.Slice none none (some (.UnaryOp .USub (.Constant (.int 1) k p1) p2)) p3) pos) (TI X tb W (g1 (gRev hp) g)) := by
  refine ⟨fun pins s σ H Q I hq => (pe_revA he).run pins s σ H Q I ?_⟩
  obtain ⟨ρ, env, h, S, E, F⟩ := hq
  refine ⟨ρ, env, h, S, E, F.bind fun v h1 ρ1 H1 x S1 st1 r1 F1 => ?_⟩
  unfold gRev at F1
  split at F1
  · rename_i ts e
    obtain ⟨a, xs, rfl, hs, rr⟩ := look_repsT S1 r1 e
    exact ⟨a, xs, rfl, .inr ⟨sqT_same Fz.le hs, (fresh_tup S1 rr.rev F1).2⟩⟩
  · rename_i t _ e
    split at F1
    · rename_i ts el
      obtain ⟨a, xs, rfl, hs, rr⟩ := look_list S1 r1 e el
      exact ⟨a, xs, rfl, .inl ⟨hs, (fresh_lst S1 rr.rev F1).2⟩⟩
    · exact F1.elim
  · exact F1.elim
/-! ### xs[i] = v -/
def aSub (o i : Ev → M RV) : RV → Ev → M Unit := fun v env h => (toT v h).bind fun t h1 => (o env h1).bind fun w h2 => (i env h2).bind fun j h3 => match j, cellL h3 w with
  | .t (.int k), some (n, xs) => match ixN xs.length k with
    | some m => .ok () (h3.set n (.lst (xs.set m t)))
    | none => .stuck
  | _, _ => .stuck
def sSub (o i e : Ev → M RV) : SM := fun env h => (e env h).sb env fun v h1 => (aSub o i v env h1).sb env fun _ h2 => .next env h2
theorem ps_sub_ {o i e : Expr} {pos pos' : Pos} {go gi ge : Ev → M RV} (ho : PE X o (TI X tb W go)) (hi : PE X i (TI X tb W gi)) (he : PE X e (TI X tb W ge)) (hs : swapsWithSole [.Subscript o i pos'] e pos.line X.env = pure false) (hw : swappedStores [.Subscript o i pos'] e X.env = pure none)
    (h1 : (assignEach [.Subscript o i pos'] X.env).map (·.2) = [assign (.Subscript o i pos') X.env])
    (h2 : ∀ (v : Value), assign (.Subscript o i pos') X.env v = do
                let ov ← holding [v] (eval o X.env)
                let iv ← holding [v, ov] (eval i X.env)
                standAt pos'
                holding [v, ov, iv] (setItem ov iv v)
                release [v, ov, iv] []) :
    PS X (.Assign [.Subscript o i pos'] e pos) (TSI X tb W (sSub go gi ge)) := by
  refine ⟨fun pins s σ H D I hq => (ps_asg he (pg_sub ho hi set_list h2) hs hw h1).run pins s σ H D I ?_⟩
  obtain ⟨ρ, env, h, S, E, F⟩ := hq
  refine ⟨ρ, env, h, S, E, FinS.bind (C := sur X tb) E F fun v h1 ρ1 H1 y S1 st1 r1 F1 => ?_⟩
  have F2 : Fin (sur X tb) (at_ W σ) (fun _ _ (_ _ : Unit) => True) ρ1 h1 H1 (aSub go gi v env h1) (fun _ H => D.nx σ H) :=
    FinS.bind (C := sur X tb) (E.step st1) F1 fun _ h2 ρ2 H2 _ S2 st2 _ F2 => (show FinS (sur X tb) W ρ2 h2 H2 (.next env h2) D from F2) _ _ _ S2 Step.refl ((E.step st1).step st2)
  unfold aSub at F2
  obtain ⟨t, h2, S2, st2, r2, F3⟩ := toT_fin S1 r1 F2
  refine ⟨ρ1, env, h2, S2, E.step (st1.trans st2), F3.bind fun w h3 ρ3 H3 x S3 st3 r3 F4 => ⟨ρ3, env, h3, S3, E.step ((st1.trans st2).trans st3), F4.bind fun j h4 ρ4 H4 z S4 st4 r4 F5 => ?_⟩⟩
  split at F5
  · rename_i k n xs e
    split at F5
    · rename_i m em
      cases r4
      obtain ⟨a, ys, rfl, ea, ec, e1, rr⟩ := cellL_at S4 (r3.step st4) e
      obtain ⟨S5, st5⟩ := S4.setL ea ec (rr.set m ((r2.same st3.same).same st4.same))
      refine ⟨a, ys, k, m, rfl, rfl, e1, by rw [← rr.len]; exact em, ?_⟩
      exact F5 _ _ () S5 st5 trivial
    · exact F5.elim
  · exact F5.elim
/-! ### a op b op' c -/
def noE {α : Type} : Res α → Res α
  | .ok a h => .ok a h
  | _ => .stuck
theorem noE_fin {α β : Type} {C : Sur} {A A' : XK} {Rl : Hp → Pl → α → β → Prop} {ρ : Pl} {h : Hs} {H : Hp} {r : Res α} {Q : β → Hp → Prop} (F : Fin C A Rl ρ h H (noE r) Q) : Fin C A' Rl ρ h H r Q := by
  cases r with
  | ok a h' => exact F
  | err c t h' => exact F.elim
  | stuck => exact F.elim
def gCh (f f' : RV → RV → M RV) (a b c : Ev → M RV) : Ev → M RV := fun env h => (a env h).bind fun v h1 => (b env h1).bind fun w h2 => (noE (f v w h2)).bind fun r h3 => (asB r h3).bind fun k h4 => if k = true then (c env h4).bind fun u h5 => noE (f' w u h5) else .ok (.t (.bl false)) h4
def rOp (X : Cx) (tb : List (Addr × Str)) (f : RV → RV → M RV) : R2 := fun x y H Q => ∃ ρ h v1 v2, Hst (sur X tb) ρ h H ∧ RepV X.K (Fz ρ h H) ρ v1 x ∧ RepV X.K (Fz ρ h H) ρ v2 y ∧ Fin (sur X tb) (fun _ _ _ => False) (RepV X.K) ρ h H (f v1 v2 h) Q
theorem opR_of {f : Value → Value → Sem Value} {g : RV → RV → M RV} (h : Run2 X tb (fun _ _ _ _ => False) f g) : OpR X f (rOp X tb g) := by
  intro pins s σ H x y v u Q I rx ry ⟨ρ, hh, v1, v2, S, r1, r2, F⟩
  exact h pins s σ H x y v u ρ hh v1 v2 Q I rx ry S r1 r2 F
theorem chain_reads {f f' : RV → RV → M RV} {ga gb gc : Ev → M RV} {σ : L2.St} {H : Hp} {Q : VK} (hq : TI X tb W (gCh f f' ga gb gc) σ H Q) : tChain (rOp X tb f) (rOp X tb f') (TI X tb W ga) (TI X tb W gb) (TI X tb W gc) σ H Q := by
  obtain ⟨ρ, env, h, S, E, F⟩ := hq
  refine ⟨ρ, env, h, S, E, F.bind fun v h1 ρ1 H1 x S1 st1 r1 F1 => ⟨ρ1, env, h1, S1, E.step st1, F1.bind fun w h2 ρ2 H2 y S2 st2 r2 F2 => ⟨ρ2, h2, v, w, S2, r1.step st2, r2, ?_⟩⟩⟩
  have F3 : Fin (sur X tb) (at_ W σ) (RepV X.K) ρ2 h2 H2 (noE (f v w h2)) (fun z H3 => ∃ k, z = .bl k ∧ if k = true then TI X tb W gc σ H3 (fun w' H4 => rOp X tb f' y w' H4 Q) else Q (.bl false) H3) := F2.bind fun r h3 ρ3 H3 z S3 st3 r3 F3 => by
    unfold asB at F3
    split at F3
    · rename_i k
      cases r3
      refine ⟨k, rfl, ?_⟩
      have F4 : Fin (sur X tb) (at_ W σ) (RepV X.K) ρ3 h3 H3 (if k = true then (gc env h3).bind fun u h5 => noE (f' w u h5) else .ok (.t (.bl false)) h3) Q := F3
      split
      · rename_i hk
        rw [if_pos hk] at F4
        exact ⟨ρ3, env, h3, S3, E.step ((st1.trans st2).trans st3), F4.bind fun u h4 ρ4 H4 w' S4 st4 r4 F5 => ⟨ρ4, h4, w, u, S4, (r2.step st3).step st4, r4, noE_fin F5⟩⟩
      · rename_i hk
        rw [if_neg hk] at F4
        exact F4.flat (t := .bl false) S3 rfl
    · exact F3.elim
  exact noE_fin F3
theorem pe_chain_ {a b c : Expr} {pos : Pos} {op op' : CmpOp} {f f' : RV → RV → M RV} {ga gb gc : Ev → M RV} (ho : Run2 X tb (fun _ _ _ _ => False) (compareOp op) f) (ho' : Run2 X tb (fun _ _ _ _ => False) (compareOp op') f') (ha : PE X a (TI X tb W ga)) (hb : PE X b (TI X tb W gb)) (hc : PE X c (TI X tb W gc)) (hm : lastMarks [op, op'] [b, c] = false) :
    PE X (.Compare a [op, op'] [b, c] pos) (TI X tb W (gCh f f' ga gb gc)) :=
  ⟨fun pins s σ H Q I hq => (pe_chain (opR_of ho) (opR_of ho') ha hb hc hm).run pins s σ H Q I (chain_reads hq)⟩
/-! ### -i -/
def gNeg : RV → M RV
  | .t (.int i) => fun h => .ok (.t (.int (-i))) h
  | _ => fun _ => .stuck
theorem run_neg : Run1 X tb W (unaryOp .USub) gNeg := by
  intro pins s σ H x u ρ h v1 Q I rx S r F
  unfold gNeg at F
  split at F
  · cases r
    exact un_neg pins s σ H _ _ Q I rx ⟨_, rfl, F.flat (t := .int _) S rfl⟩
  · exact F.elim
/-! ### a, b, c = .. -/
def sPar3 (i j l : Nat) (gs : Ev → M (List RV)) : SM := fun env h => (gs env h).sb env fun vs h1 => match vs with
  | [u, v, w] => .next (((env.set i (some u)).set j (some v)).set l (some w)) h1
  | _ => .stuck
theorem ps_par3_ {i j l : Nat} {x y z : Str} {a b c : Expr} {gs : Ev → M (List RV)} {px py pz pt pos : Pos} {kt k2 pt2} (hc : X.calm = true) (hN : X.N.Nodup) (hi : X.N[i]? = some x) (hj : X.N[j]? = some y) (hl : X.N[l]? = some z) (hij : i ≠ j) (hil : i ≠ l) (hjl : j ≠ l)
    (hx : X.env.scope.names.lookup x = some .local) (hy : X.env.scope.names.lookup y = some .local) (hz : X.env.scope.names.lookup z = some .local) (ha : PA X [a, b, c] (TAI X tb W gs))
    (hw : swappedStores [.Tuple [.Name x px, .Name y py, .Name z pz] kt pt] (.Tuple [a, b, c] k2 pt2) X.env = pure (some [x, y, z]))
    (hs : swapsWithSole [.Tuple [.Name x px, .Name y py, .Name z pz] kt pt] (.Tuple [a, b, c] k2 pt2) pos.line X.env = pure false) :
    PS X (.Assign [.Tuple [.Name x px, .Name y py, .Name z pz] kt pt] (.Tuple [a, b, c] k2 pt2) pos) (TSI X tb W (sPar3 i j l gs)) := by
  refine ⟨fun pins s σ H D I hq => (ps_par3 hc hN hi hj hl hij hil hjl hx hy hz ha hw hs).run pins s σ H D I ?_⟩
  obtain ⟨ρ, env, h, S, E, F⟩ := hq
  refine ⟨ρ, env, h, S, E, FinS.bind (C := sur X tb) E F fun vs h1 ρ1 H1 xs S1 st1 r1 F1 => ?_⟩
  split at F1
  · cases r1 with
    | cons q1 r1 =>
    cases r1 with
    | cons q2 r1 =>
    cases r1 with
    | cons q3 r1 =>
    cases r1
    exact ⟨_, _, _, rfl, F1 _ _ _ S1 Step.refl ((((E.step st1).set i q1).set j q2).set l q3)⟩
  · exact F1.elim
end
end Py

set_option Elab.async false
set_option linter.all false
set_option maxRecDepth 100000
set_option maxHeartbeats 4000000
namespace Py
open PySem PySem.Spec PyProof.Rows L2 Lw LamX
theorem Defs.any {X X' : Cx} {tb : List (Addr × Str)} {B : Tbl} {k : Nat} {cf : CF} (D : Defs X tb B k cf) (h1 : X'.prog = X.prog) (h2 : X'.w = X.w) (h3 : X'.K = X.K) (h4 : X'.mg = X.mg) (h5 : X'.base = X.base) : Defs X' tb B k cf := by
  obtain ⟨d1, d2, d3, d4, d5⟩ := D
  cases X
  cases X'
  dsimp only at *
  subst h1 h2 h3 h4 h5
  exact ⟨d1, d2, d3, d4, d5⟩
/-- what the names that stand for built-in things, and for values, are -/
structure Names2 (K : PySem.W.Frag) (mg : Str → Option Value) (fr : List Str) (cs : List (Str × T)) : Prop where
  fr : ∀ x ∈ fr, mg x = none
  cs : ∀ p ∈ cs, ∃ u v, mg p.1 = some u ∧ RelV v u ∧ ∀ F, Rep K F p.2 v
/-- all that is known where a piece of the text stands -/
structure Ctx (X : Cx) (tb : List (Addr × Str)) (B : Tbl) (fr : List Str) (er : Addr) (k : Nat) (cf : CF) : Prop where
  fa : Facts2 X.K B
  d : Defs X tb B k cf
  nm : Names2 X.K X.mg fr B.consts
  ei : ErrI X B er
  gd : X.A.guards = some []
  rm : Room (k + 2) X.A
section
variable {X : Cx} {tb : List (Addr × Str)} {B : Tbl} {fr : List Str} {er : Addr} {k : Nat} {cf : CF} {W : WX}
theorem ErrI.any {X X' : Cx} {B : Tbl} {f : Addr} (D : ErrI X B f) (h1 : X'.prog = X.prog) (h2 : X'.w = X.w) (h3 : X'.K = X.K) (h4 : X'.mg = X.mg) (h5 : X'.base = X.base) : ErrI X' B f := by
  obtain ⟨d1, d2, d3⟩ := D
  cases X
  cases X'
  dsimp only at *
  subst h1 h2 h3 h4 h5
  exact ⟨d1, d2, d3⟩
theorem Ctx.to {X' : Cx} (C : Ctx X tb B fr er k cf) (h1 : X'.prog = X.prog := by rfl) (h2 : X'.w = X.w := by rfl) (h3 : X'.K = X.K := by rfl) (h4 : X'.mg = X.mg := by rfl) (h5 : X'.base = X.base := by rfl) (h6 : X'.A = X.A := by rfl) : Ctx X' tb B fr er k cf :=
  ⟨by rw [h3]; exact C.fa, C.d.any h1 h2 h3 h4 h5, by rw [h3, h4]; exact C.nm, C.ei.any h1 h2 h3 h4 h5, by rw [h6]; exact C.gd, by rw [h6]; exact C.rm⟩
theorem Ctx.r0 (C : Ctx X tb B fr er k cf) : Room k X.A := C.rm.mono (by omega)
theorem Ctx.r1 (C : Ctx X tb B fr er k cf) : Room (k + 1) X.A := C.rm.mono (by omega)
theorem Ctx.r2 (C : Ctx X tb B fr er k cf) : Room 2 X.A := C.rm.mono (by omega)
theorem Ctx.u1 (C : Ctx X tb B fr er k cf) : X.A.units + 1 < cLine := by have := C.rm.un; omega
theorem Ctx.u61 (C : Ctx X tb B fr er k cf) : X.A.units + 61 < cLine := by have := C.rm.un; omega
theorem Ctx.u64 (C : Ctx X tb B fr er k cf) : X.A.units + 64 < cLine := by have := C.rm.un; omega
theorem Ctx.u65 (C : Ctx X tb B fr er k cf) : X.A.units + 65 < cLine := by have := C.rm.un; omega
/-! ### the parts, by what is known -/
theorem xv {x : Str} {pos : Pos} (i : Nat) (hv : Vis X.env.scope x) (hN : X.N[i]? = some x := by rfl) (hd : (x == ("__debug__" : Str)) = false := by rfl) (hcd : (x == ("__classdict__" : Str)) = false := by rfl) : PE X (.Name x pos) (TI X tb W (gVar i)) := pe_var_ hN hv hd hcd
theorem xint {i : Int} {j : Nat} {pos : Pos} : PE X (.Constant (.int i) j pos) (TI X tb W (gC (.int i))) := pe_const_ pe_int fun _ => .int i
theorem xstr {x : Str} {j : Nat} {pos : Pos} : PE X (.Constant (.str x) j pos) (TI X tb W (gC (.str x))) := pe_const_ pe_str fun _ => .str x
theorem xnon {j : Nat} {pos : Pos} : PE X (.Constant .none j pos) (TI X tb W (gC .non)) := pe_const_ pe_non fun _ => .non
theorem xbl {b : Bool} {j : Nat} {pos : Pos} : PE X (.Constant (.bool b) j pos) (TI X tb W (gC (.bl b))) := pe_const_ pe_bl fun _ => .bl b
theorem xcst {x : Str} {t : T} {pos : Pos} (C : Ctx X tb B fr er k cf) (hm : (x, t) ∈ B.consts) (hg : Gl X x := by rfl) (hdb : (x == ("__debug__" : Str)) = false := by rfl) : PE X (.Name x pos) (TI X tb W (gC t)) := by
  obtain ⟨u, v, h1, h2, h3⟩ := C.nm.cs _ hm
  exact pe_const_ (pe_glob hg h1 h2 hdb) h3
theorem xclT {x : Str} {n : String} {pos : Pos} (C : Ctx X tb B fr er k cf) (hm : x ∈ fr) (hv : bootBuiltins x = some (.type n)) (hg : Gl X x := by rfl) (hn : x ≠ "__name__" := by decide) (hdb : (x == ("__debug__" : Str)) = false := by rfl) : PE X (.Name x pos) (TI X tb W (gC (.cl (.ty n)))) := pe_clT_ hg (C.nm.fr _ hm) hv hn hdb
theorem xclO {x : Str} {pos : Pos} (C : Ctx X tb B fr er k cf) (hm : B.cls.contains x = true) (hg : Gl X x := by rfl) (hdb : (x == ("__debug__" : Str)) = false := by rfl) : PE X (.Name x pos) (TI X tb W (gC (.cl (.own x)))) := pe_clO_ hg (C.d.c x hm).1 hdb
theorem xclE {x : Str} {pos : Pos} (C : Ctx X tb B fr er k cf) (hm : B.errs.contains x = true) (hg : Gl X x := by rfl) (hdb : (x == ("__debug__" : Str)) = false := by rfl) : PE X (.Name x pos) (TI X tb W (gC (.cl (.own x)))) := pe_clO_ hg (C.ei.at_ x hm).2 hdb
theorem xa {e : Expr} {es : List Expr} {ga : Ev → M RV} {gs : Ev → M (List RV)} (ha : PE X e (TI X tb W ga)) (hr : PA X es (TAI X tb W gs)) (hs : starEach (e :: es) X.env = (false, eval e X.env) :: starEach es X.env := by rfl) : PA X (e :: es) (TAI X tb W (gCons ga gs)) := pa_cons_ ha hr hs
/-- f(..), f a def -/
theorem xg {x : Str} {e : Expr} {es : List Expr} {p pos : Pos} {gs : Ev → M (List RV)} (C : Ctx X tb B fr er k cf) (tk : Takes X W) (hm : x ∈ B.defs) (ha : PA X (e :: es) (TAI X tb W gs)) (hg : Gl X x := by rfl) (hdb : (x == ("__debug__" : Str)) = false := by rfl) (he : starEach (e :: es) X.env = (false, eval e X.env) :: starEach es X.env := by rfl) (hpl : (backTo pos (starEach es X.env)).any (·.1) = false := by rfl) :
    PE X (.Call (.Name x p) (e :: es) [] pos) (TI X tb W (gL (cf (.g x)) gs)) :=
  pe_call_ (run_call (C.d.g x hm).1 C.gd C.r0 tk) (C.d.g x hm).1.kp hg (C.d.g x hm).2 ha hdb he hpl
theorem xg0 {x : Str} {p pos : Pos} (C : Ctx X tb B fr er k cf) (tk : Takes X W) (hm : x ∈ B.defs) (hg : Gl X x := by rfl) (hdb : (x == ("__debug__" : Str)) = false := by rfl) :
    PE X (.Call (.Name x p) [] [] pos) (TI X tb W (gL (cf (.g x)) gNil)) :=
  pe_call0_ (run_call (C.d.g x hm).1 C.gd C.r0 tk) (C.d.g x hm).1.kp hg (C.d.g x hm).2 hdb
/-- C(..) -/
theorem xn {x : Str} {e : Expr} {es : List Expr} {p pos : Pos} {gs : Ev → M (List RV)} (C : Ctx X tb B fr er k cf) (tk : Takes X W) (keep : Bool) (hm : B.cls.contains x = true) (ha : PA X (e :: es) (TAI X tb W gs)) (hg : Gl X x := by rfl) (hdb : (x == ("__debug__" : Str)) = false := by rfl) (he : starEach (e :: es) X.env = (false, eval e X.env) :: starEach es X.env := by rfl) (hpl : (backTo pos (starEach es X.env)).any (·.1) = false := by rfl) :
    PE X (.Call (.Name x p) (e :: es) [] pos) (TI X tb W (gL (gNew cf x keep) gs)) :=
  pe_call_ (run_new C.fa C.d hm C.gd C.r1 tk) (C.fa.mk_ x hm).kp hg (C.d.c x hm).1 ha hdb he hpl
/-- built-in functions, types -/
theorem xb {x : Str} {id : String} {e : Expr} {es : List Expr} {p pos : Pos} {f : List RV → M RV} {gs : Ev → M (List RV)} (C : Ctx X tb B fr er k cf) (hc : RunL X tb W (fun us => call (.builtin id) us) f) (hm : x ∈ fr) (hv : bootBuiltins x = some (.builtin id)) (ha : PA X (e :: es) (TAI X tb W gs)) (hg : Gl X x := by rfl) (hn : x ≠ "__name__" := by decide) (hdb : (x == ("__debug__" : Str)) = false := by rfl)
    (he : starEach (e :: es) X.env = (false, eval e X.env) :: starEach es X.env := by rfl) (hpl : (backTo pos (starEach es X.env)).any (·.1) = false := by rfl) : PE X (.Call (.Name x p) (e :: es) [] pos) (TI X tb W (gL f gs)) := pe_callB_ hc hg (C.nm.fr _ hm) hv ha hn hdb he hpl
theorem xt {x : Str} {id : String} {e : Expr} {es : List Expr} {p pos : Pos} {f : List RV → M RV} {gs : Ev → M (List RV)} (C : Ctx X tb B fr er k cf) (hc : RunL X tb W (fun us => call (.type id) us) f) (hm : x ∈ fr) (hv : bootBuiltins x = some (.type id)) (ha : PA X (e :: es) (TAI X tb W gs)) (hg : Gl X x := by rfl) (hn : x ≠ "__name__" := by decide) (hdb : (x == ("__debug__" : Str)) = false := by rfl)
    (he : starEach (e :: es) X.env = (false, eval e X.env) :: starEach es X.env := by rfl) (hpl : (backTo pos (starEach es X.env)).any (·.1) = false := by rfl) : PE X (.Call (.Name x p) (e :: es) [] pos) (TI X tb W (gL f gs)) := pe_callTy_ hc hg (C.nm.fr _ hm) hv ha hn hdb he hpl
/-- o.f -/
theorem xf {f : Str} {e : Expr} {pos : Pos} {g : Ev → M RV} (C : Ctx X tb B fr er k cf) (he : PE X e (TI X tb W g)) (hb : attributeBase e f X.env (eval e X.env) = eval e X.env := by rfl) : PE X (.Attribute e f pos) (TI X tb W (g1 (gAttr B cf f) g)) := pe_attr_ C.fa C.d C.gd C.r1 he hb
/-- operators -/
theorem xo {a b : Expr} {pos : Pos} {ga gb : Ev → M RV} (hp : Bool) (op : Operator) (ha : PE X a (TI X tb W ga)) (hb : PE X b (TI X tb W gb)) : PE X (.BinOp a op b pos) (TI X tb W (g2 (gBin hp op) ga gb)) := pe_op_ (run_bin hp op) ha hb
theorem xoo {a b : Expr} {pos : Pos} {ga gb : Ev → M RV} (C : Ctx X tb B fr er k cf) (tk : Takes X W) (op : Operator) (m : Str) (ha : PE X a (TI X tb W ga)) (hb : PE X b (TI X tb W gb)) (hm : PySem.dunder op.info.2 = m := by rfl) : PE X (.BinOp a op b pos) (TI X tb W (g2 (ownB B cf m) ga gb)) := pe_op_ (run_ownB C.fa C.d C.gd C.r0 tk hm) ha hb
theorem xneg {a : Expr} {pos : Pos} {ga : Ev → M RV} (ha : PE X a (TI X tb W ga)) : PE X (.UnaryOp .USub a pos) (TI X tb W (g1 gNeg ga)) := pe_un_ run_neg ha
theorem reqs (C : Ctx X tb B fr er k cf) (tk : Takes X W) : Run2 X tb W (compareOp .Eq) (bySelf (ownEq B cf) (gEq false)) := run_bySelf (run_ownEq C.fa C.d C.gd C.r0 tk) (run_eq C.u64)
theorem rnes (C : Ctx X tb B fr er k cf) (tk : Takes X W) : Run2 X tb W (compareOp .NotEq) (bySelf (ownNe B cf) (gEq true)) := run_bySelf (run_ownNe C.fa C.d C.gd C.r1 tk) (run_ne C.u64)
theorem rins (C : Ctx X tb B fr er k cf) (tk : Takes X W) : Run2 X tb W (compareOp .In) (byThat (ownIn B cf) (gIn false)) := run_byThat (run_ownIn C.fa C.d C.gd C.r0 tk) (run_in C.u65)
theorem xi {a b : Expr} {pos : Pos} {ga gb : Ev → M RV} (C : Ctx X tb B fr er k cf) (ha : PE X a (TI X tb W ga)) (hb : PE X b (TI X tb W gb)) (hs : PlainIx b := by exact fun _ _ => rfl) : PE X (.Subscript a b pos) (TI X tb W (g2 gIdx ga gb)) := pe_idx_ (run_idx C.u1) ha hb hs
/-- a value's truth -/
theorem xtr {e : Expr} {g : Ev → M RV} (he : PE X e (TI X tb W g)) (h : ∀ (whole : Sem Value), PySem.isTrue e X.env whole = (do
          let v ← whole
          standAt e.pos
          holding [v] (truthy v)) := by exact fun _ => rfl) : PT X e (TTI X tb W (gTru g)) := pt_of_pe he h
/-- o.m(..), m a def of o's class -/
theorem xm {m : Str} {o e : Expr} {es : List Expr} {apos pos : Pos} {ga : Ev → M RV} {gs : Ev → M (List RV)} {pl : Sem Bool} (C : Ctx X tb B fr er k cf) (tk : Takes X W) (ho : PE X o (TI X tb W ga)) (ha : PA X (e :: es) (TAI X tb W gs))
    (hst : starEach (e :: es) X.env = (false, eval e X.env) :: starEach es X.env := by rfl) (hpl : (backTo pos (starEach es X.env)).any (·.1) = false := by rfl)
    (ht : eval (.Call (.Attribute o m apos) (e :: es) [] pos) X.env = (do
      let ov ← eval o X.env
      standAt apos.atName
      let (f, first) ← holding [ov] (getMethod ov m pl)
      callWith pos f first (backTo pos (starEach (e :: es) X.env)) (backToKw pos (keywordEach [] X.env))) := by rfl) :
    PE X (.Call (.Attribute o m apos) (e :: es) [] pos) (TI X tb W (gMth B cf m ga gs)) := pe_mth_ C.fa C.d C.gd C.r0 tk ho ha hst hpl ht
theorem xm0 {m : Str} {o : Expr} {apos pos : Pos} {ga : Ev → M RV} {pl : Sem Bool} (C : Ctx X tb B fr er k cf) (tk : Takes X W) (ho : PE X o (TI X tb W ga))
    (ht : eval (.Call (.Attribute o m apos) [] [] pos) X.env = (do
      let ov ← eval o X.env
      standAt apos.atName
      let (f, first) ← holding [ov] (getMethod ov m pl)
      callWith pos f first (backTo pos (starEach [] X.env)) (backToKw pos (keywordEach [] X.env))) := by rfl) :
    PE X (.Call (.Attribute o m apos) [] [] pos) (TI X tb W (gMth B cf m ga gNil)) := pe_mth0_ C.fa C.d C.gd C.r0 tk ho ht
theorem xst {x m : Str} {np apos pos : Pos} {e : Expr} {es : List Expr} {gs : Ev → M (List RV)} {pl : Sem Bool} (C : Ctx X tb B fr er k cf) (tk : Takes X W) (hc : B.cls.contains x = true) (hm : B.stats.contains (x, m) = true) (ha : PA X (e :: es) (TAI X tb W gs))
    (hg : Gl X x := by rfl) (hdb : (x == ("__debug__" : Str)) = false := by rfl) (he : starEach (e :: es) X.env = (false, eval e X.env) :: starEach es X.env := by rfl) (hpl : (backTo pos (starEach es X.env)).any (·.1) = false := by rfl)
    (ht : eval (.Call (.Attribute (.Name x np) m apos) (e :: es) [] pos) X.env = (do
      let ov ← eval (.Name x np) X.env
      standAt apos.atName
      let (f, first) ← holding [ov] (getMethod ov m pl)
      callWith pos f first (backTo pos (starEach (e :: es) X.env)) (backToKw pos (keywordEach [] X.env))) := by rfl) : PE X (.Call (.Attribute (.Name x np) m apos) (e :: es) [] pos) (TI X tb W (gL (cf (.m x m)) gs)) :=
  pe_stat_ C.fa C.d C.gd C.r0 tk hc hm hg ha hdb he hpl ht
/-- o.m(..), m a method of a built-in type -/
theorem xq {o e : Expr} {es : List Expr} {name : Str} {id : String} {apos cpos : Pos} {f : RV → List RV → M RV} {ga : Ev → M RV} {gs : Ev → M (List RV)} (T : Ty3) (pa : PlainAttrs T.n) (slot : Slot T.n name id) (hty : typeOf (.builtin id) = pure (.type "method_descriptor")) (hm : RunM X tb W id f)
    (ho : PE X o (TI X tb W ga)) (ha : PA X (e :: es) (TAI X tb W gs)) (hbase : attributeBase o name X.env (eval o X.env) = eval o X.env := by rfl)
    (hfew : ((backTo cpos (starEach (e :: es) X.env)).all (fun x => !x.1) && (backToKw cpos (keywordEach [] X.env)).all (fun x => x.1.isSome)
      && decide ((e :: es).length + ([] : List Keyword).length + (if ([] : List Keyword).isEmpty then 0 else 1) < 30)) = true := by rfl)
    (hline : (apos.endLine == cpos.line) = true := by rfl) (hs : starEach (e :: es) X.env = (false, eval e X.env) :: starEach es X.env := by rfl) (hplain : (backTo cpos (starEach es X.env)).any (·.1) = false := by rfl) :
    PE X (.Call (.Attribute o name apos) (e :: es) [] cpos) (TI X tb W (gMet T f ga gs)) := pe_met_ pa slot hty hm ho ha hbase hfew hline hs hplain
theorem xq0 {o : Expr} {name : Str} {id : String} {apos cpos : Pos} {f : RV → List RV → M RV} {ga : Ev → M RV} (T : Ty3) (pa : PlainAttrs T.n) (slot : Slot T.n name id) (hty : typeOf (.builtin id) = pure (.type "method_descriptor")) (hm : RunM X tb W id f)
    (ho : PE X o (TI X tb W ga)) (hbase : attributeBase o name X.env (eval o X.env) = eval o X.env := by rfl) (hline : (apos.endLine == cpos.line) = true := by rfl) :
    PE X (.Call (.Attribute o name apos) [] [] cpos) (TI X tb W (gMet T f ga gNil)) := pe_met0_ pa slot hty hm ho hbase hline
/-! ### targets, statements, loops -/
theorem xpn {own : List Nat} {x : Str} {pos : Pos} (i : Nat) (hx : Loc X.env.scope x) (ho : i ∈ own := by decide) (hd : X.N.Nodup := by decide +kernel) (hN : X.N[i]? = some x := by rfl) (hf : X.fn x = true ∨ X.env.scope.names.lookup x = some .local := by first | exact .inl rfl | exact .inr rfl) : PG X (.Name x pos) (TGI X tb own (aName i)) := pg_name_ ho hd hN hx hf
theorem xpt {own : List Nat} {es : List Expr} {k : Nat} {pos : Pos} {g : List T → Ev → Hs → Option Ev} (n : Nat) (h : PGs X es (TGsI X tb own g)) (hc : X.calm = true := by rfl) (hn : (assignEach es X.env).length = n := by rfl) (hst : (assignEach es X.env).findIdx? (·.1) = none := by rfl) : PG X (.Tuple es k pos) (TGI X tb own (aTup n g)) := pg_tup_ hc h hn hst
theorem xset {x : Str} {e : Expr} {pos pos' : Pos} {g : Ev → M RV} (i : Nat) (hx : Loc X.env.scope x) (he : PE X e (TI X tb W g)) (hd : X.N.Nodup := by decide +kernel) (hN : X.N[i]? = some x := by rfl) (hs : swapsWith e (some (.Name x pos')) pos.line X.env = pure false := by rfl) (hf : X.fn x = true ∨ X.env.scope.names.lookup x = some .local := by first | exact .inl rfl | exact .inr rfl) :
    PS X (.Assign [.Name x pos'] e pos) (TSI X tb W (sAsg (aName i) g)) := ps_set_ hd hN hx he hs hf
theorem xasg {own : List Nat} {tg e : Expr} {pos : Pos} {f : RV → Ev → Hs → Option Ev} {g : Ev → M RV} (he : PE X e (TI X tb W g)) (hg : PG X tg (TGI X tb own f)) (hs : swapsWithSole [tg] e pos.line X.env = pure false := by rfl) (hw : swappedStores [tg] e X.env = pure none := by rfl)
    (h1 : (assignEach [tg] X.env).map (·.2) = [assign tg X.env] := by rfl) : PS X (.Assign [tg] e pos) (TSI X tb W (sAsg f g)) := ps_asg_ he hg hs hw h1
theorem xex {e : Expr} {pos : Pos} {g : Ev → M RV} (he : PE X e (TI X tb W g)) (hs : swapsWith e none pos.line X.env = pure false := by rfl) : PS X (.Expr e pos) (TSI X tb W (sEx g)) := ps_ex_ he hs
theorem xput {o e : Expr} {f : Str} {p' pos : Pos} {go ge : Ev → M RV} (C : Ctx X tb B fr er k cf) (ho : PE X o (TI X tb W go)) (he : PE X e (TI X tb W ge)) (hs : swapsWith e (some (.Attribute o f p')) pos.line X.env = pure false := by rfl) : PS X (.Assign [.Attribute o f p'] e pos) (TSI X tb W (sPut B f go ge)) := ps_put_ C.fa ho he hs
theorem xraise {c : Str} {e : Expr} {es : List Expr} {p pos pos2 : Pos} {gs : Ev → M (List RV)} (C : Ctx X tb B fr er k cf) (tk : Takes X W) (hc : B.errs.contains c = true) (ha : PA X (e :: es) (TAI X tb W gs)) (hcalm : X.calm = true := by rfl) (hg : Gl X c := by rfl)
    (hdb : (c == ("__debug__" : Str)) = false := by rfl) (he : starEach (e :: es) X.env = (false, eval e X.env) :: starEach es X.env := by rfl) (hpl : (backTo pos (starEach es X.env)).any (·.1) = false := by rfl) :
    PS X (.Raise (some (.Call (.Name c p) (e :: es) [] pos)) none pos2) (TSI X tb W (sRaise c gs)) := ps_raise_ C.fa C.ei hc hcalm tk C.r2 hg ha hdb he hpl
theorem xsub {o i e : Expr} {pos pos' : Pos} {go gi ge : Ev → M RV} (ho : PE X o (TI X tb W go)) (hi : PE X i (TI X tb W gi)) (he : PE X e (TI X tb W ge)) (hs : swapsWithSole [.Subscript o i pos'] e pos.line X.env = pure false := by rfl) (hw : swappedStores [.Subscript o i pos'] e X.env = pure none := by rfl)
    (h1 : (assignEach [.Subscript o i pos'] X.env).map (·.2) = [assign (.Subscript o i pos') X.env] := by rfl)
    (h2 : ∀ (v : Value), assign (.Subscript o i pos') X.env v = (do
                let ov ← holding [v] (eval o X.env)
                let iv ← holding [v, ov] (eval i X.env)
                standAt pos'
                holding [v, ov, iv] (setItem ov iv v)
                release [v, ov, iv] []) := by exact fun _ => rfl) :
    PS X (.Assign [.Subscript o i pos'] e pos) (TSI X tb W (sSub go gi ge)) := ps_sub_ ho hi he hs hw h1 h2
theorem xfor {own : List Nat} {tg iter : Expr} {body : List Stmt} {pos : Pos} {gi : Ev → M (List T)} {f : RV → Ev → Hs → Option Ev} {gb : SM} (hp : PassesOwn (model X.prog X.w) X.A X.env X.xe) (hi : PI X tg iter (TII X tb W gi)) (hg : PG X tg (TGI X tb own f)) (hb : PSs X body (TSI X tb W gb)) (hc : X.calm = true := by rfl) (hf : ∀ (x : Value), foldedSetIterable iter X.env x = pure x := by exact fun _ => rfl) :
    PS X (.For tg iter body [] pos) (TSI X tb W (sFor gi f gb)) := ps_for_ hp hc hi hg hb hf
theorem xlc {elt tg iter : Expr} {ifs : List Expr} {scope : Scope} {pos : Pos} {it : Ev → M (List T)} {f : RV → Ev → Hs → Option Ev} {c : Ev → M Bool} {e : Ev → M RV} (hp : Bool) (own : List (Str × Nat)) (hi : PI X tg iter (TII X tb W it)) (hb : BlkOk X.N X.env.scope scope own)
    (hg : ∀ (s : Shared) (H : Hp) (C : Addr) (cl : List (Str × Addr)) (fp : List Addr), PG (X.blk s H scope (compEnvC scope cl C X.env) fp) tg (TGI X tb (List.map (fun x => x.snd) own) f))
    (ht : ∀ (s : Shared) (H : Hp) (C : Addr) (cl : List (Str × Addr)) (fp : List Addr), PTs (X.blk s H scope (compEnvC scope cl C X.env) fp) ifs (TTI X tb Wf c))
    (he : ∀ (s : Shared) (H : Hp) (C : Addr) (cl : List (Str × Addr)) (fp : List Addr), PE (X.blk s H scope (compEnvC scope cl C X.env) fp) elt (TI X tb Wf e)) (hc : X.calm = true := by rfl) (hd : X.N.Nodup := by decide +kernel) (hf : ∀ (x : Value), foldedSetIterable iter X.env x = pure x := by exact fun _ => rfl) :
    PE X (elt.ListComp [{ target := tg, iter := iter, ifs := ifs, is_async := 0 }] scope pos) (TI X tb W (gLc hp it f c e (List.map (fun x => x.snd) own))) := pe_lc_ hc hd hi hb hg ht he hf
theorem xslc {y : Str} {py : Pos} {elt tg iter : Expr} {ifs : List Expr} {scope : Scope} {pos spos : Pos} {it : Ev → M (List T)} {f : RV → Ev → Hs → Option Ev} {c : Ev → M Bool} {e : Ev → M RV} (i : Nat) (hp : Bool) (own : List (Str × Nat)) (hi : PI X tg iter (TII X tb W it)) (hb : BlkOk X.N X.env.scope scope own)
    (hg : ∀ (s : Shared) (H : Hp) (C : Addr) (cl : List (Str × Addr)) (fp : List Addr), PG (X.blk s H scope (compEnvC scope cl C X.env) fp) tg (TGI X tb (List.map (fun x => x.snd) own) f))
    (ht : ∀ (s : Shared) (H : Hp) (C : Addr) (cl : List (Str × Addr)) (fp : List Addr), PTs (X.blk s H scope (compEnvC scope cl C X.env) fp) ifs (TTI X tb Wf c))
    (he : ∀ (s : Shared) (H : Hp) (C : Addr) (cl : List (Str × Addr)) (fp : List Addr), PE (X.blk s H scope (compEnvC scope cl C X.env) fp) elt (TI X tb Wf e))
    (hs : swapsWith (elt.ListComp [{ target := tg, iter := iter, ifs := ifs, is_async := 0 }] scope pos) (some (.Name y py)) spos.line X.env = pure true)
    (hc : X.calm = true := by rfl) (hd : X.N.Nodup := by decide +kernel) (hN : X.N[i]? = some y := by rfl) (hl : X.env.scope.names.lookup y = some .local := by rfl) (hf : ∀ (x : Value), foldedSetIterable iter X.env x = pure x := by exact fun _ => rfl) :
    PS X (.Assign [.Name y py] (elt.ListComp [{ target := tg, iter := iter, ifs := ifs, is_async := 0 }] scope pos) spos) (TSI X tb W (sAsg (aName i) (gLc hp it f c e (List.map (fun x => x.snd) own)))) := ps_setLc_ hc hd hN hl hs hi hb hg ht he hf
theorem xrg1 {tg a : Expr} {p pos : Pos} {gs : Ev → M (List RV)} (C : Ctx X tb B fr er k cf) (hm : ("range" : Str) ∈ fr) (ha : PA X [a] (TAI X tb W gs)) (hg : Gl X "range" := by rfl) (hs : starEach [a] X.env = [(false, eval a X.env)] := by rfl) : PI X tg (.Call (.Name "range" p) [a] [] pos) (TII X tb W (iRng1 gs)) := pi_rng1_ hg (C.nm.fr _ hm) ha hs
theorem xen {e : Expr} {p pos tpos : Pos} {elts : List Expr} {kk : Nat} {gs : Ev → M (List RV)} (C : Ctx X tb B fr er k cf) (hm : ("enumerate" : Str) ∈ fr) (ha : PA X [e] (TAI X tb W gs)) (hg : Gl X "enumerate" := by rfl) (hs : starEach [e] X.env = [(false, eval e X.env)] := by rfl) :
    PI X (.Tuple elts kk tpos) (.Call (.Name "enumerate" p) [e] [] pos) (TII X tb W (iEnumA gs)) := pi_enum_ hg (C.nm.fr _ hm) ha hs
theorem xtR1 {hp : Bool} {a : Expr} {p p2 pos pos2 : Pos} {g : Ev → M RV} (C : Ctx X tb B fr er k cf) (hm : ("tuple" : Str) ∈ fr) (hm2 : ("range" : Str) ∈ fr) (ha : PE X a (TI X tb W g)) (hg : Gl X "tuple" := by rfl) (hg2 : Gl X "range" := by rfl) (hc : X.calm = true := by rfl) (h1 : starEach [.Call (.Name "range" p2) [a] [] pos2] X.env = (false, eval (.Call (.Name "range" p2) [a] [] pos2) X.env) :: starEach [] X.env := by rfl) (h2 : starEach [a] X.env = (false, eval a X.env) :: starEach [] X.env := by rfl) :
    PE X (.Call (.Name "tuple" p) [.Call (.Name "range" p2) [a] [] pos2] [] pos) (TI X tb W (gRg1 hp .tup g)) := pe_tupRg1_ hc hg (C.nm.fr _ hm) hg2 (C.nm.fr _ hm2) ha h1 h2
theorem xlR1 {hp : Bool} {a : Expr} {p p2 pos pos2 : Pos} {g : Ev → M RV} (C : Ctx X tb B fr er k cf) (hm : ("list" : Str) ∈ fr) (hm2 : ("range" : Str) ∈ fr) (ha : PE X a (TI X tb W g)) (hg : Gl X "list" := by rfl) (hg2 : Gl X "range" := by rfl) (hc : X.calm = true := by rfl) (h1 : starEach [.Call (.Name "range" p2) [a] [] pos2] X.env = (false, eval (.Call (.Name "range" p2) [a] [] pos2) X.env) :: starEach [] X.env := by rfl) (h2 : starEach [a] X.env = (false, eval a X.env) :: starEach [] X.env := by rfl) :
    PE X (.Call (.Name "list" p) [.Call (.Name "range" p2) [a] [] pos2] [] pos) (TI X tb W (gRg1 hp .lst g)) := pe_listRg1_ hc hg (C.nm.fr _ hm) hg2 (C.nm.fr _ hm2) ha h1 h2
theorem xlZ {a b : Expr} {p p2 pos pos2 : Pos} {gs : Ev → M (List RV)} (C : Ctx X tb B fr er k cf) (hm : ("list" : Str) ∈ fr) (hm2 : ("zip" : Str) ∈ fr) (ha : PA X [a, b] (TAI X tb W gs)) (hg : Gl X "list" := by rfl) (hg2 : Gl X "zip" := by rfl) (hc : X.calm = true := by rfl) (h1 : starEach [.Call (.Name "zip" p2) [a, b] [] pos2] X.env = (false, eval (.Call (.Name "zip" p2) [a, b] [] pos2) X.env) :: starEach [] X.env := by rfl) (h2 : starEach [a, b] X.env = (false, eval a X.env) :: starEach [b] X.env := by rfl) (h4 : ((backTo pos2 (starEach [b] X.env)).any fun x => x.fst) = false := by rfl) :
    PE X (.Call (.Name "list" p) [.Call (.Name "zip" p2) [a, b] [] pos2] [] pos) (TI X tb W (gL gZipL gs)) := pe_listZip_ hc hg (C.nm.fr _ hm) hg2 (C.nm.fr _ hm2) ha h1 h2 h4
theorem xss {hp : Bool} {p q pos pos2 : Pos} {e : Expr} {gs : Ev → M (List RV)} (C : Ctx X tb B fr er k cf) (hm : ("sorted" : Str) ∈ fr) (hm2 : ("set" : Str) ∈ fr) (ha : PA X [e] (TAI X tb W gs)) (hg : Gl X "sorted" := by rfl) (hg2 : Gl X "set" := by rfl) (hc : X.calm = true := by rfl)
    (h1 : starEach [.Call (.Name "set" q) [e] [] pos2] X.env = (false, eval (.Call (.Name "set" q) [e] [] pos2) X.env) :: starEach [] X.env := by rfl) (h2 : starEach [e] X.env = (false, eval e X.env) :: starEach [] X.env := by rfl) :
    PE X (.Call (.Name "sorted" p) [.Call (.Name "set" q) [e] [] pos2] [] pos) (TI X tb W (gL (gSortedSet hp) gs)) := pe_ssort_ hc hg (C.nm.fr _ hm) hg2 (C.nm.fr _ hm2) ha h1 h2
theorem xch {a b c : Expr} {pos : Pos} {ga gb gc : Ev → M RV} (op op' : CmpOp) (ha : PE X a (TI X tb W ga)) (hb : PE X b (TI X tb W gb)) (hc : PE X c (TI X tb W gc)) (hm : lastMarks [op, op'] [b, c] = false := by rfl) : PE X (.Compare a [op, op'] [b, c] pos) (TI X tb W (gCh (gOrd op) (gOrd op') ga gb gc)) := pe_chain_ (run_ord op) (run_ord op') ha hb hc hm
theorem xpar {x y : Str} {a b : Expr} {gs : Ev → M (List RV)} {px py pt pos : Pos} {kt k2 pt2} (i j : Nat) (ha : PA X [a, b] (TAI X tb W gs)) (hij : i ≠ j := by decide) (hc : X.calm = true := by rfl) (hN : X.N.Nodup := by decide +kernel) (hi : X.N[i]? = some x := by rfl) (hj : X.N[j]? = some y := by rfl)
    (hx : X.env.scope.names.lookup x = some .local := by rfl) (hy : X.env.scope.names.lookup y = some .local := by rfl)
    (hw : swappedStores [.Tuple [.Name x px, .Name y py] kt pt] (.Tuple [a, b] k2 pt2) X.env = pure (some [x, y]) := by rfl)
    (hs : swapsWithSole [.Tuple [.Name x px, .Name y py] kt pt] (.Tuple [a, b] k2 pt2) pos.line X.env = pure false := by rfl) :
    PS X (.Assign [.Tuple [.Name x px, .Name y py] kt pt] (.Tuple [a, b] k2 pt2) pos) (TSI X tb W (sPar [i, j] gs)) := ps_par_ hc hN hi hj hij hx hy ha hw hs
end
end Py

set_option Elab.async false
set_option linter.all false
set_option maxRecDepth 100000
set_option maxHeartbeats 4000000
namespace Py
open PySem PySem.Spec PyProof.Rows L2 Lw LamX
/-- a text, its head done: the written part, the names, the tables -/
structure En where
  P : Program
  w : World
  K : PySem.W.Frag
  mg : Str → Option Value
  base : Heap
  tb : List (Addr × Str)
  er : Addr
structure DefsE (E : En) (B : Tbl) (k : Nat) (cf : CF) : Prop where
  g : ∀ x ∈ B.defs, FI E.P E.w E.K E.mg E.base E.tb k (He.ga E.K x) (cf (.g x)) ∧ E.mg x = some (.ref (He.ga E.K x))
  m : ∀ p ∈ B.mets, FI E.P E.w E.K E.mg E.base E.tb k (He.ma E.K (He.ga E.K p.1) p.2) (cf (.m p.1 p.2))
  p : ∀ p ∈ B.props, FI E.P E.w E.K E.mg E.base E.tb k (He5.wf E.K (He.ga E.K p.1) "property" p.2) (cf (.m p.1 p.2))
  s : ∀ p ∈ B.stats, FI E.P E.w E.K E.mg E.base E.tb k (He5.wf E.K (He.ga E.K p.1) "staticmethod" p.2) (cf (.m p.1 p.2))
  c : ∀ c, B.cls.contains c = true → E.mg c = some (.ref (He.ga E.K c)) ∧ FI E.P E.w E.K E.mg E.base E.tb k (He.ma E.K (He.ga E.K c) "__init__") (cf (.m c "__init__"))
structure All (E : En) (B : Tbl) (fr : List Str) : Prop where
  fa : Facts2 E.K B
  nm : Names2 E.K E.mg fr B.consts
  eok : ∃ fd, FnOk E.P E.w E.K E.mg E.base (L2.CX E.P E.w) 1 E.er fd ["self", "value"] (spErr E.K) ∧ Binds E.K fd ["self", "value"] []
  ety : PySem.W.typeIn E.K (.ref E.er) = some (.type "function")
  eat : ∀ c, B.errs.contains c = true → PySem.W.findIn E.K (.ref (He.ga E.K c)) "__init__" = some (some (.ref E.er)) ∧ E.mg c = some (.ref (He.ga E.K c))
theorem All.ctx {E : En} {B : Tbl} {fr : List Str} (A0 : All E B fr) {k : Nat} {cf : CF} (D : DefsE E B k cf) {X : Cx} (hg : X.A.guards = some []) (hr : Room (k + 2) X.A) (h1 : X.prog = E.P := by rfl) (h2 : X.w = E.w := by rfl) (h3 : X.K = E.K := by rfl) (h4 : X.mg = E.mg := by rfl) (h5 : X.base = E.base := by rfl) : Ctx X E.tb B fr E.er k cf := by
  obtain ⟨a1, a2, a3, a4, a5⟩ := A0
  obtain ⟨d1, d2, d3, d4, d5⟩ := D
  cases X
  cases E
  dsimp only at *
  subst h1 h2 h3 h4 h5
  exact ⟨a1, ⟨d1, d2, d3, d4, d5⟩, a2, ⟨a3, a4, a5⟩, hg, hr⟩
section
variable {X : Cx} {tb : List (Addr × Str)} {B : Tbl} {fr : List Str} {er : Addr} {k : Nat} {cf : CF} {W : WX}
theorem pe_one_ {a : Expr} {op : BoolOp} {pos : Pos} {ga : Ev → M RV} (ha : PE X a (TI X tb W ga)) : PE X (.BoolOp op [a] pos) (TI X tb W ga) := pe_one ha
def gDict0 (hp : Bool) : Ev → M RV := fun _ h => fresh hp (.dct []) h
theorem xd0 (hp : Bool) {pos : Pos} : PE X (.Dict [] [] pos) (TI X tb W (gDict0 hp)) := by
  refine ⟨fun pins s σ H Q I hq => pe_dnewK.run pins s σ H Q I fun p np => ?_⟩
  obtain ⟨ρ, env, h, S, E, F⟩ := hq
  have F : Fin (sur X tb) (at_ W σ) (RepV X.K) ρ h H (fresh hp (.dct []) h) Q := F
  unfold fresh at F
  dsimp only at F
  split at F
  · obtain ⟨S1, st⟩ := S.cellNew (c := .dct []) (o := .dK []) np rfl ⟨[], upd_same, .nil⟩
    exact F _ _ _ S1 st ⟨p, by show (ρ.ad ++ [p])[h.length]? = _; rw [← S.len, List.getElem?_append_right (Nat.le_refl _), Nat.sub_self]; rfl, rfl⟩
  · obtain ⟨S1, st⟩ := S.grow (same_new (o := .dK []) np)
    exact F _ _ _ S1 st (.dct (.inl (S.growF (same_new np) upd_same np fun _ z => by cases z)) .nil)
/-- a chain as a test -/
theorem pt_ch_ {a b c : Expr} {pos : Pos} {op op' : CmpOp} {f f' : RV → RV → M RV} {ga gb gc : Ev → M RV} (ho : Run2 X tb (fun _ _ _ _ => False) (compareOp op) f) (ho' : Run2 X tb (fun _ _ _ _ => False) (compareOp op') f') (ha : PE X a (TI X tb W ga)) (hb : PE X b (TI X tb W gb)) (hc : PE X c (TI X tb W gc)) (hm : lastMarks [op, op'] [b, c] = false) :
    PT X (.Compare a [op, op'] [b, c] pos) (TTI X tb W (gAsB (gCh f f' ga gb gc))) := by
  refine ⟨fun pins s σ H Q I hq => (pt_chain (opR_of ho) (opR_of ho') ha hb hc hm).run pins s σ H Q I ?_⟩
  obtain ⟨ρ, env, h, S, E, F⟩ := hq
  have G : TI X tb W (gCh f f' ga gb gc) σ H (fun z H3 => ∃ k, z = .bl k ∧ Q k H3) := ⟨ρ, env, h, S, E, asB_fin F⟩
  exact chain_reads G
theorem xtch {a b c : Expr} {pos : Pos} {ga gb gc : Ev → M RV} (op op' : CmpOp) (ha : PE X a (TI X tb W ga)) (hb : PE X b (TI X tb W gb)) (hc : PE X c (TI X tb W gc)) (hm : lastMarks [op, op'] [b, c] = false := by rfl) : PT X (.Compare a [op, op'] [b, c] pos) (TTI X tb W (gAsB (gCh (gOrd op) (gOrd op') ga gb gc))) := pt_ch_ (run_ord op) (run_ord op') ha hb hc hm
/-- a def whose code object is known -/
theorem def_okC {P : Program} {w : World} {K : PySem.W.Frag} {mg : Str → Option Value} {base : Heap} {k : Nat} {f c : Addr} {fd : FuncData} {x qual : Str} {params : Arguments} {body : List Stmt} {scope : Scope} {N ps : List Str} {keep : Bool} {b : SM} (F : FunD K x qual params body scope [] [] f fd) (hc : fd.code = .ref c) (S : FnScope N ps scope) (hb : Binds K fd ps [])
    (H : ∀ (A : Around) (outer : List Env) (s : Shared) (H : Hp) (E : XK), A.guards = some [] → Room k (A.deeper (envOfC qual scope s.heap.objs.size f (.ref c))) →
      PSs (cxOf (L2.CX P w) P w K mg base N qual scope f (.ref c) A outer s H E) body (TSI (cxOf (L2.CX P w) P w K mg base N qual scope f (.ref c) A outer s H E) tb (fun c d _ H => E c d H) b)) :
    FI P w K mg base tb (k + 1) f (runDef keep ps.length N.length b) := by
  refine ⟨⟨fd, ps, okGC F hc S (fun vs H Q E h => h.1) fun A outer s H' vs Q E hg hr h => ?_, hb, fun vs h hl => by unfold runDef; rw [if_neg hl]⟩, F.kp⟩
  obtain ⟨hl, ρ, h, args, S0, rs, Fn⟩ := h
  refine ⟨_, H A outer s H' E hg hr, ρ, args.map some ++ List.replicate (N.length - ps.length) none, h, S0, start_env rs ps.length (rs.len.trans hl), ?_⟩
  unfold runDef at Fn
  rw [if_pos (rs.len.trans hl)] at Fn
  cases hb2 : b (args.map some ++ List.replicate (N.length - ps.length) none) h with
  | ret v h' => rw [hb2] at Fn; exact fun ρ' H2 x' S' st r => defEnd_fin S0 S' st r Fn
  | next env' h' => rw [hb2] at Fn; exact fun ρ' H2 σ' S' st r => defEnd_fin (v := .t .non) S0 S' st .non Fn
  | brk env' h' => rw [hb2] at Fn; exact Fn.elim
  | cnt env' h' => rw [hb2] at Fn; exact Fn.elim
  | stuck => rw [hb2] at Fn; exact Fn.elim
  | err c t env' h' =>
    rw [hb2] at Fn
    intro ρ' H2 d x' σ' S' st E' e r
    obtain ⟨S1, st1, sm⟩ := cut_step S0 S' st
    exact Fn _ _ d x' S1 st1 e (Rep.same sm r)
end
/-- .. the def's data named -/
theorem def_okF {P : Program} {w : World} {K : PySem.W.Frag} {mg : Str → Option Value} {base : Heap} {tb : List (Addr × Str)} {k : Nat} {f : Addr} {fd : FuncData} {x qual : Str} {params : Arguments} {body : List Stmt} {scope : Scope} {N ps : List Str} {keep : Bool} {b : SM} (F : FunD K x qual params body scope [] [] f fd) (S : FnScope N ps scope)
    (H : ∀ (cdv : Value) (A : Around) (outer : List Env) (s : Shared) (H : Hp) (E : XK), A.guards = some [] → Room k (A.deeper (envOfC qual scope s.heap.objs.size f cdv)) →
      PSs (cxOf (L2.CX P w) P w K mg base N qual scope f cdv A outer s H E) body (TSI (cxOf (L2.CX P w) P w K mg base N qual scope f cdv A outer s H E) tb (fun c d _ H => E c d H) b)) :
    FnG P w K mg base (L2.CX P w) (k + 1) f fd ps (spI ⟨K, tb⟩ (runDef keep ps.length N.length b) ps.length) := by
  refine okG F S (fun vs H Q E h => h.1) fun cdv A outer s H' vs Q E hg hr h => ?_
  obtain ⟨hl, ρ, h, args, S0, rs, Fn⟩ := h
  refine ⟨_, H cdv A outer s H' E hg hr, ρ, args.map some ++ List.replicate (N.length - ps.length) none, h, S0, start_env rs ps.length (rs.len.trans hl), ?_⟩
  unfold runDef at Fn
  rw [if_pos (rs.len.trans hl)] at Fn
  cases hb2 : b (args.map some ++ List.replicate (N.length - ps.length) none) h with
  | ret v h' => rw [hb2] at Fn; exact fun ρ' H2 x' S' st r => defEnd_fin S0 S' st r Fn
  | next env' h' => rw [hb2] at Fn; exact fun ρ' H2 σ' S' st r => defEnd_fin (v := .t .non) S0 S' st .non Fn
  | brk env' h' => rw [hb2] at Fn; exact Fn.elim
  | cnt env' h' => rw [hb2] at Fn; exact Fn.elim
  | stuck => rw [hb2] at Fn; exact Fn.elim
  | err c t env' h' =>
    rw [hb2] at Fn
    intro ρ' H2 d x' σ' S' st E' e r
    obtain ⟨S1, st1, sm⟩ := cut_step S0 S' st
    exact Fn _ _ d x' S1 st1 e (Rep.same sm r)
theorem FI.ofF {P : Program} {w : World} {K : PySem.W.Frag} {mg : Str → Option Value} {base : Heap} {tb : List (Addr × Str)} {k np nn : Nat} {f : Addr} {fd : FuncData} {ps : List Str} {keep : Bool} {b : SM} (h : FnG P w K mg base (L2.CX P w) k f fd ps (spI ⟨K, tb⟩ (runDef keep ps.length nn b) ps.length)) (hb : Binds K fd ps []) (kp : PySem.W.keepIn K (.ref f) = true) : FI P w K mg base tb k f (runDef keep ps.length nn b) :=
  ⟨⟨fd, ps, h, hb, fun vs h hl => by unfold runDef; rw [if_neg hl]⟩, kp⟩
/-- the def that tells, and the def of the lambdas handed to it: its tables -/
structure Tolds (E : En) (b x a : Str) (st : Stmt) (N : List Str) (ct : Addr × Addr) (qual : Str) : Prop where
  mg : E.mg x = some (.ref (He.ga E.K x))
  fn : ∃ fd, FunD E.K x x (defArgs st) (defBody st) (defScope st) [] [] (He.ga E.K x) fd ∧ Binds E.K fd [a] []
  sc : FnScope N [a] (defScope st)
  n0 : N[0]? = some a
  vis : Vis (defScope st) a
  ok : ∀ (X : Cx) (cdg : Value), X.prog = E.P → X.w = E.w → X.K = E.K → X.mg = E.mg → X.base = E.base → Calls2 X N x (defScope st) (He.ga E.K x) cdg (defBody st) a (TTold X.K (He.ga X.K b))
  tab : TabB E.base E.mg ct.1 ct.2
  mem : (ct.2, qual ++ "<lambda>") ∈ E.tb
  uq : ∀ p ∈ E.tb, p.1 = ct.2 → p.2 = qual ++ "<lambda>"
  d1 : (x == ("__debug__" : Str)) = false
  d2 : (a == ("__debug__" : Str)) = false
  d3 : (a == ("__classdict__" : Str)) = false
theorem told_ {E : En} {b x a : Str} {st : Stmt} {N : List Str} {ct : Addr × Addr} {qual : Str} {B : Tbl} {fr : List Str} {k : Nat} {cf : CF} {X : Cx} {W : WX} {params : Arguments} {body : Expr} {scope : Scope} {g : Ev → M RV} {p pos lpos : Pos} (TL : Tolds E b x a st N ct qual) (D : DefsE E B k cf) (A0 : All E B fr) (C : Ctx X E.tb B fr E.er k cf) (hr : Room (k + 4) X.A)
    (L : LamS X.env.scope scope)
    (hbody : ∀ (A : Around) (outer : List Env) (s : Shared) (H : Hp) (E' : XK) (f c' : Addr), Room (k + 2) (A.deeper (lamEnv X scope s.heap.objs.size f c')) → A.guards = some [] → PE (lamCx X A outer s H E' scope f c') body (TI (lamCx X A outer s H E' scope f c') E.tb (fun cls d _ H => E' cls d H) g))
    (hg : Gl X x := by rfl) (hcode : X.env.code = .ref ct.1 := by rfl) (hq : X.env.qual = qual := by rfl) (hdef : defaultsOf params X.env = ([], []) := by rfl)
    (hbind : ∀ (q : Str) (cl : List (Str × Addr)) (pm cv ctv : Value), bindArgs (PySem.W.kla_fn "<lambda>" q params body scope cl pm cv ctv) ⟨[], []⟩ = pure [] := by exact fun _ _ _ _ _ => rfl)
    (hs : starEach [.Lambda params body scope lpos] X.env = (false, eval (.Lambda params body scope lpos) X.env) :: starEach [] X.env := by rfl)
    (h1 : X.prog = E.P := by rfl) (h2 : X.w = E.w := by rfl) (h3 : X.K = E.K := by rfl) (h4 : X.mg = E.mg := by rfl) (h5 : X.base = E.base := by rfl) :
    PE X (.Call (.Name x p) [.Lambda params body scope lpos] [] pos) (TI X E.tb W (gTold B b g)) := by
  obtain ⟨fd, F, hb⟩ := TL.fn
  have ok := TL.ok X
  have tab := TL.tab
  have mg := TL.mg
  cases X
  cases E
  dsimp only at *
  subst h1 h2 h3 h4 h5
  subst hq
  exact pe_told_ C.fa tab hcode TL.mem TL.uq hdef hg mg F hb TL.sc TL.n0 TL.vis (fun cdg => ok cdg rfl rfl rfl rfl rfl) hr L hbind (fun A outer s H E' f c' hg2 hr2 => hbody A outer s H E' f c' hr2 hg2) hs C.gd TL.d1 TL.d2 TL.d3
end Py

set_option Elab.async false
set_option linter.all false
set_option maxRecDepth 100000
set_option maxHeartbeats 4000000
/-! A call sees the cells that it is handed, and no others. -/
namespace Py
open PySem PySem.Spec PyProof.Rows L2 Lw LamX
def refsOf : List RV → List Nat
  | [] => []
  | .t _ :: vs => refsOf vs
  | .r n :: vs => n :: refsOf vs
def renum : Nat → List RV → List RV
  | _, [] => []
  | k, .t t :: vs => .t t :: renum k vs
  | k, .r _ :: vs => .r k :: renum (k + 1) vs
def pick (h : Hs) : List Nat → Option Hs
  | [] => some []
  | i :: is => match h[i]?, pick h is with
    | some c, some cs => some (c :: cs)
    | _, _ => none
/-- what the callee left in the cells is written back -/
def wb : List Nat → Hs → Hs → Hs
  | i :: is, c :: cs, h => wb is cs (h.set i c)
  | _, _, h => h
def locEnd (is : List Nat) (h : Hs) : Res RV → Res RV
  | .ok (.t t) h' => .ok (.t t) (wb is h' h)
  | .ok (.r m) h' => match is[m]? with
    | some i => .ok (.r i) (wb is h' h)
    | none => match h'[m]? with
      | some (.fz t) => .ok (.t t) (wb is h' h)
      | some c => .ok (.r h.length) (wb is h' h ++ [c])
      | none => .stuck
  | .err c t h' => .err c t (wb is h' h)
  | .stuck => .stuck
def loc (g : List RV → M RV) : List RV → M RV := fun args h =>
  if (refsOf args).Nodup then match pick h (refsOf args) with
    | some cs => locEnd (refsOf args) h (g (renum 0 args) cs)
    | none => .stuck
  else .stuck
theorem wb_len : ∀ {is : List Nat} {h' h : Hs}, (wb is h' h).length = h.length
  | [], _, _ => rfl
  | _ :: _, [], _ => rfl
  | i :: is, c :: cs, h => by
    unfold wb
    rw [wb_len, List.length_set]
theorem wb_out {i : Nat} : ∀ {is : List Nat} {h' h : Hs}, i ∉ is → (wb is h' h)[i]? = h[i]?
  | [], _, _, _ => rfl
  | _ :: _, [], _, _ => rfl
  | k :: is, c :: cs, h, n => by
    unfold wb
    rw [wb_out fun m => n (List.mem_cons_of_mem _ m), List.getElem?_set_ne (fun e => n (by rw [e]; exact List.mem_cons_self))]
theorem wb_in {i : Nat} {c : Cell} : ∀ {is : List Nat} {h' h : Hs} {j : Nat}, is.Nodup → is[j]? = some i → h'[j]? = some c → i < h.length → (wb is h' h)[i]? = some c
  | [], _, _, _, _, e, _, _ => by cases e
  | _ :: _, [], _, _, _, _, e, _ => by cases e
  | k :: is, d :: cs, h, 0, nd, e1, e2, l => by
    cases e1
    cases e2
    unfold wb
    rw [wb_out (List.nodup_cons.mp nd).1, List.getElem?_set_self l]
  | k :: is, d :: cs, h, j + 1, nd, e1, e2, l => by
    unfold wb
    exact wb_in (List.nodup_cons.mp nd).2 e1 e2 (by rw [List.length_set]; exact l)
theorem pick_at {h : Hs} : ∀ {is : List Nat} {cs : Hs}, pick h is = some cs → cs.length = is.length ∧ ∀ (j i : Nat), is[j]? = some i → ∃ c : Cell, h[i]? = some c ∧ cs[j]? = some c
  | [], cs, e => by cases e; exact ⟨rfl, fun j i e => by cases e⟩
  | k :: is, cs, e => by
    unfold pick at e
    split at e
    · rename_i c ds e1 e2
      cases e
      obtain ⟨l, q⟩ := pick_at e2
      refine ⟨by rw [List.length_cons, List.length_cons, l], fun j i ej => ?_⟩
      cases j with
      | zero => cases ej; exact ⟨c, e1, rfl⟩
      | succ j => exact q j i ej
    · cases e
theorem Fz_more2 {ρ ρ' : Pl} {h h' : Hs} {H : Hp} (hl : ∀ b, b ∈ live ρ'.ad h' ++ ρ'.ex → b ∈ live ρ.ad h ++ ρ.ex) : Same (Fz ρ h H) (Fz ρ' h' H) := fun b o e => by
  unfold Fz at e ⊢
  split at e
  · cases e
  · rename_i n
    rw [if_neg fun z => n (hl b z)]
    exact e
section
variable {C : Sur} {ρ : Pl} {h : Hs} {H : Hp}
/-- the cells picked, the others hidden -/
def subPl (ρ : Pl) (h : Hs) (is : List Nat) : Pl := ⟨is.map fun i => ρ.ad.getD i 0, ((live ρ.ad h).filter fun a => !(is.map fun i => ρ.ad.getD i 0).contains a) ++ ρ.ex⟩
theorem ad_nd (S : Hst C ρ h H) {i j : Nat} {a : Addr} (e1 : ρ.ad[i]? = some a) (e2 : ρ.ad[j]? = some a) : i = j := by
  obtain ⟨h1, q1⟩ := List.getElem?_eq_some_iff.mp e1
  obtain ⟨h2, q2⟩ := List.getElem?_eq_some_iff.mp e2
  exact (List.getElem_inj S.nd).mp (q1.trans q2.symm)
structure Pick (C : Sur) (ρ : Pl) (h : Hs) (H : Hp) (is : List Nat) (cs : Hs) : Prop where
  S : Hst C ρ h H
  nd : is.Nodup
  pk : pick h is = some cs
theorem Pick.at_ {is : List Nat} {cs : Hs} (p : Pick C ρ h H is cs) {j i : Nat} (e : is[j]? = some i) : ∃ (a : Addr) (c : Cell), ρ.ad[i]? = some a ∧ h[i]? = some c ∧ (subPl ρ h is).ad[j]? = some a ∧ cs[j]? = some c := by
  obtain ⟨c, e1, e2⟩ := (pick_at p.pk).2 j i e
  obtain ⟨a, ea, _⟩ := p.S.at_ e1
  refine ⟨a, c, ea, e1, ?_, e2⟩
  show (is.map fun i => ρ.ad.getD i 0)[j]? = some a
  rw [List.getElem?_map, e]
  simp [List.getD, ea]
theorem Pick.ads {is : List Nat} {cs : Hs} (p : Pick C ρ h H is cs) {a : Addr} (m : a ∈ (subPl ρ h is).ad) : ∃ (j i : Nat) (c : Cell), is[j]? = some i ∧ ρ.ad[i]? = some a ∧ h[i]? = some c ∧ (subPl ρ h is).ad[j]? = some a ∧ cs[j]? = some c := by
  obtain ⟨j, ej⟩ := List.getElem?_of_mem m
  have ej' : (is.map fun i => ρ.ad.getD i 0)[j]? = some a := ej
  rw [List.getElem?_map, Option.map_eq_some_iff] at ej'
  obtain ⟨i, ei, _⟩ := ej'
  obtain ⟨a', c, q1, q2, q3, q4⟩ := p.at_ ei
  rw [ej] at q3
  cases q3
  exact ⟨j, i, c, ei, q1, q2, ej, q4⟩
theorem Pick.oth {is : List Nat} {cs : Hs} (p : Pick C ρ h H is cs) {a : Addr} (m : a ∈ (subPl ρ h is).ex) : (a ∈ live ρ.ad h ∧ a ∉ (subPl ρ h is).ad) ∨ a ∈ ρ.ex := by
  rcases List.mem_append.mp m with m | m
  · obtain ⟨m1, m2⟩ := List.mem_filter.mp m
    refine .inl ⟨m1, fun z => ?_⟩
    have : (is.map fun i => ρ.ad.getD i 0).contains a = true := by simpa [subPl] using z
    rw [this] at m2
    cases m2
  · exact .inr m
theorem Pick.mem {is : List Nat} {cs : Hs} (p : Pick C ρ h H is cs) (b : Addr) : b ∈ live (subPl ρ h is).ad cs ++ (subPl ρ h is).ex ↔ b ∈ live ρ.ad h ++ ρ.ex := by
  constructor
  · intro m
    rcases List.mem_append.mp m with m | m
    · obtain ⟨j, c, e1, e2, e3⟩ := live_ix m
      obtain ⟨j', i, c', q1, q2, q3, q4, q5⟩ := p.ads (List.mem_of_getElem? e1)
      refine List.mem_append_left _ ?_
      have hj : is[j]? = some i ∨ True := .inr trivial
      -- the same place
      have e1' : (is.map fun i => ρ.ad.getD i 0)[j]? = some b := e1
      rw [List.getElem?_map, Option.map_eq_some_iff] at e1'
      obtain ⟨i2, ei2, _⟩ := e1'
      obtain ⟨a2, c2, z1, z2, z3, z4⟩ := p.at_ ei2
      rw [e1] at z3
      cases z3
      rw [e2] at z4
      cases z4
      exact mem_live e3 z1 z2
    · rcases p.oth m with ⟨m, _⟩ | m
      · exact List.mem_append_left _ m
      · exact List.mem_append_right _ m
  · intro m
    rcases List.mem_append.mp m with m | m
    · by_cases hb : b ∈ (subPl ρ h is).ad
      · obtain ⟨j, i, c, q1, q2, q3, q4, q5⟩ := p.ads hb
        obtain ⟨i', c', z1, z2, z3⟩ := live_ix m
        have := ad_nd p.S q2 z1
        subst this
        rw [q3] at z2
        cases z2
        exact List.mem_append_left _ (mem_live z3 q4 q5)
      · refine List.mem_append_right _ (List.mem_append_left _ (List.mem_filter.mpr ⟨m, ?_⟩))
        have : ¬ (is.map fun i => ρ.ad.getD i 0).contains b = true := fun z => hb (by simpa [subPl] using z)
        simpa using this
    · exact List.mem_append_right _ (List.mem_append_right _ m)
theorem Pick.fz {is : List Nat} {cs : Hs} (p : Pick C ρ h H is cs) : Fz (subPl ρ h is) cs H = Fz ρ h H := by
  funext b
  unfold Fz
  simp only [p.mem b]
theorem Pick.hst {is : List Nat} {cs : Hs} (p : Pick C ρ h H is cs) : Hst C (subPl ρ h is) cs H := by
  refine ⟨?_, ?_, fun a m => ?_, fun a m => ?_, fun j a c e1 e2 => ?_, p.S.tabs⟩
  · show (is.map fun i => ρ.ad.getD i 0).length = _
    rw [List.length_map, (pick_at p.pk).1]
  · show (is.map fun i => ρ.ad.getD i 0).Nodup
    unfold List.Nodup
    rw [List.pairwise_map]
    refine List.Pairwise.imp_of_mem (fun {i j} mi mj ne z => ?_) p.nd
    obtain ⟨x, ex⟩ := List.getElem?_of_mem mi
    obtain ⟨y, ey⟩ := List.getElem?_of_mem mj
    obtain ⟨a, c, q1, _, _, _⟩ := p.at_ ex
    obtain ⟨b, d, z1, _, _, _⟩ := p.at_ ey
    have : a = b := by simpa [List.getD, q1, z1] using z
    subst this
    exact ne (ad_nd p.S q1 z1)
  · obtain ⟨j, i, c, q1, q2, _⟩ := p.ads m
    exact p.S.has a (List.mem_of_getElem? q2)
  · rcases p.oth m with ⟨m, n⟩ | m
    · obtain ⟨o, e, mu⟩ := p.S.cell_liv m
      exact ⟨n, o, e, mu⟩
    · refine ⟨fun z => ?_, (p.S.ex a m).2⟩
      obtain ⟨j, i, c, q1, q2, _⟩ := p.ads z
      exact (p.S.ex a m).1 (List.mem_of_getElem? q2)
  · rw [p.fz]
    have e1' : (is.map fun i => ρ.ad.getD i 0)[j]? = some a := e1
    rw [List.getElem?_map, Option.map_eq_some_iff] at e1'
    obtain ⟨i2, ei2, _⟩ := e1'
    obtain ⟨a2, c2, z1, z2, z3, z4⟩ := p.at_ ei2
    rw [e1] at z3
    cases z3
    rw [e2] at z4
    cases z4
    exact p.S.cell i2 a c z1 z2
theorem Pick.args {is : List Nat} {cs : Hs} (p : Pick C ρ h H is cs) : ∀ {args : List RV} {vs : List V} {pre : List Nat}, RepVs C.K (Fz ρ h H) ρ args vs → is = pre ++ refsOf args → RepVs C.K (Fz (subPl ρ h is) cs H) (subPl ρ h is) (renum pre.length args) vs
  | [], _, _, .nil, _ => .nil
  | .t t :: args, _, pre, .cons r rs, e => by
    unfold renum
    refine .cons ?_ (p.args rs e)
    show Rep C.K (Fz (subPl ρ h is) cs H) t _
    rw [p.fz]
    exact r
  | .r n :: args, _, pre, .cons r rs, e => by
    unfold renum
    refine .cons ?_ ?_
    · obtain ⟨a, ea, rfl⟩ := r
      have ei : is[pre.length]? = some n := by rw [e]; simp [refsOf]
      obtain ⟨a', c, q1, q2, q3, q4⟩ := p.at_ ei
      rw [ea] at q1
      cases q1
      exact ⟨a, q3, rfl⟩
    · have := p.args (pre := pre ++ [n]) rs (by rw [e]; simp [refsOf])
      rw [List.length_append] at this
      exact this
/-- the state behind the callee -/
theorem Pick.back {is : List Nat} {cs h' : Hs} {ρ' : Pl} {H' : Hp} (p : Pick C ρ h H is cs) (S' : Hst C ρ' h' H') (st : Step (subPl ρ h is) cs H ρ' h' H') {adx : List Addr} {hx : Hs} (hlx : adx.length = hx.length) (hnd : adx.Nodup)
    (hin : ∀ (j : Nat) (a : Addr) (c : Cell), adx[j]? = some a → hx[j]? = some c → ∃ m, is.length ≤ m ∧ ρ'.ad[m]? = some a ∧ h'[m]? = some c ∧ c.live = true) :
    Hst C ⟨ρ.ad ++ adx, ρ.ex⟩ (wb is h' h ++ hx) H' ∧ Step ρ h H ⟨ρ.ad ++ adx, ρ.ex⟩ (wb is h' h ++ hx) H' ∧ Same (Fz ρ' h' H') (Fz ⟨ρ.ad ++ adx, ρ.ex⟩ (wb is h' h ++ hx) H') := by
  have S := p.S
  have lw : (wb is h' h).length = h.length := wb_len
  have hl : ρ.ad.length = (wb is h' h).length := by rw [lw]; exact S.len
  -- where an old cell stands now
  have inI : ∀ {j i : Nat} {a : Addr}, is[j]? = some i → ρ.ad[i]? = some a → ρ'.ad[j]? = some a ∧ ∃ c : Cell, h'[j]? = some c ∧ (wb is h' h)[i]? = some c := by
    intro j i a ej ea
    obtain ⟨a', c, q1, q2, q3, q4⟩ := p.at_ ej
    rw [ea] at q1
    cases q1
    have e := st.pre j a q3
    have hj : j < h'.length := by rw [← S'.len]; exact (List.getElem?_eq_some_iff.mp e).1
    exact ⟨e, h'[j], List.getElem?_eq_getElem hj, wb_in p.nd ej (List.getElem?_eq_getElem hj) (List.getElem?_eq_some_iff.mp q2).1⟩
  have nad : ∀ {i : Nat} {a : Addr}, i ∉ is → ρ.ad[i]? = some a → a ∉ (subPl ρ h is).ad := by
    intro i a ni ea z
    obtain ⟨j, i', c, q1, q2, _⟩ := p.ads z
    have := ad_nd S ea q2
    subst this
    exact ni (List.mem_of_getElem? q1)
  have othLive : ∀ {i : Nat} {a : Addr} {c : Cell}, i ∉ is → ρ.ad[i]? = some a → h[i]? = some c → c.live = true → a ∈ (subPl ρ h is).ex := by
    intro i a c ni ea ec lc
    refine List.mem_append_left _ (List.mem_filter.mpr ⟨mem_live lc ea ec, ?_⟩)
    have : ¬ (is.map fun i => ρ.ad.getD i 0).contains a = true := fun z => nad ni ea (by simpa [subPl] using z)
    simpa using this
  -- what a hidden cell's address holds stays
  have stay : ∀ {i : Nat} {a : Addr}, i ∉ is → ρ.ad[i]? = some a → ∀ o, H a = some o → H' a = some o := by
    intro i a ni ea o eo
    have hi : i < h.length := by rw [← S.len]; exact (List.getElem?_eq_some_iff.mp ea).1
    cases hc : (h[i]).live with
    | true =>
      rw [st.exs a (othLive ni ea (List.getElem?_eq_getElem hi) hc)]
      exact eo
    | false =>
      obtain ⟨o', e', nt⟩ := S.has a (List.mem_of_getElem? ea)
      rw [eo] at e'
      cases e'
      have nl : a ∉ live ρ.ad h ++ ρ.ex := fun z => by
        rcases List.mem_append.mp z with z | z
        · obtain ⟨i', c', z1, z2, z3⟩ := live_ix z
          have := ad_nd S ea z1
          subst this
          rw [List.getElem?_eq_getElem hi] at z2
          cases z2
          rw [hc] at z3
          cases z3
        · exact (S.ex a z).1 (List.mem_of_getElem? ea)
      have := Fz_of eo nl nt
      rw [← p.fz] at this
      exact Fz.le _ _ (st.same _ _ this)
  have exs : ∀ a ∈ ρ.ex, H' a = H a := fun a m => st.exs a (List.mem_append_right _ m)
  -- what lives now is hidden from nothing of the callee's frozen part
  have mem : ∀ b, b ∈ live (ρ.ad ++ adx) (wb is h' h ++ hx) ++ ρ.ex → b ∈ live ρ'.ad h' ++ ρ'.ex := by
    intro b m
    rcases List.mem_append.mp m with m | m
    · rw [live_app hl] at m
      rcases List.mem_append.mp m with m | m
      · obtain ⟨i, c, e1, e2, e3⟩ := live_ix m
        by_cases hi : i ∈ is
        · obtain ⟨j, ej⟩ := List.getElem?_of_mem hi
          obtain ⟨q1, c', q2, q3⟩ := inI ej e1
          rw [e2] at q3
          cases q3
          exact List.mem_append_left _ (mem_live e3 q1 q2)
        · rw [wb_out hi] at e2
          exact List.mem_append_right _ (by rw [st.exq]; exact othLive hi e1 e2 e3)
      · obtain ⟨j, c, e1, e2, e3⟩ := live_ix m
        obtain ⟨m', _, q1, q2, _⟩ := hin j b c e1 e2
        exact List.mem_append_left _ (mem_live e3 q1 q2)
    · exact List.mem_append_right _ (by rw [st.exq]; exact List.mem_append_right _ m)
  have sm : Same (Fz ρ' h' H') (Fz ⟨ρ.ad ++ adx, ρ.ex⟩ (wb is h' h ++ hx) H') := Fz_more2 mem
  have smF : Same (Fz ρ h H) (Fz ⟨ρ.ad ++ adx, ρ.ex⟩ (wb is h' h ++ hx) H') := by
    have := st.same
    rw [p.fz] at this
    exact this.trans sm
  have newAd : ∀ {j : Nat} {a : Addr}, adx[j]? = some a → ∃ (m : Nat) (c : Cell), is.length ≤ m ∧ ρ'.ad[m]? = some a ∧ h'[m]? = some c ∧ hx[j]? = some c ∧ c.live = true := by
    intro j a e
    have hj : j < hx.length := by rw [← hlx]; exact (List.getElem?_eq_some_iff.mp e).1
    obtain ⟨m, q1, q2, q3, q4⟩ := hin j a _ e (List.getElem?_eq_getElem hj)
    exact ⟨m, _, q1, q2, q3, List.getElem?_eq_getElem hj, q4⟩
  have nold : ∀ a, a ∈ adx → a ∉ ρ.ad := by
    intro a m z
    obtain ⟨j, ej⟩ := List.getElem?_of_mem m
    obtain ⟨x, c, q1, q2, q3, q4, q5⟩ := newAd ej
    obtain ⟨i, ei⟩ := List.getElem?_of_mem z
    by_cases hi : i ∈ is
    · obtain ⟨k, ek⟩ := List.getElem?_of_mem hi
      obtain ⟨w1, _⟩ := inI ek ei
      have := ad_nd S' w1 q2
      have lk := (List.getElem?_eq_some_iff.mp ek).1
      omega
    · have hi' : i < h.length := by rw [← S.len]; exact (List.getElem?_eq_some_iff.mp ei).1
      cases hc : (h[i]).live with
      | true =>
        have := othLive hi ei (List.getElem?_eq_getElem hi') hc
        rw [← st.exq] at this
        exact (S'.ex a this).1 (List.mem_of_getElem? q2)
      | false =>
        obtain ⟨o', e', nt⟩ := S.has a z
        have nl : a ∉ live ρ.ad h ++ ρ.ex := fun z => by
          rcases List.mem_append.mp z with z | z
          · obtain ⟨i', c', z1, z2, z3⟩ := live_ix z
            have := ad_nd S ei z1
            subst this
            rw [List.getElem?_eq_getElem hi'] at z2
            cases z2
            rw [hc] at z3
            cases z3
          · exact (S.ex a z).1 (List.mem_of_getElem? ei)
        have := Fz_of e' nl nt
        rw [← p.fz] at this
        have := st.same _ _ this
        unfold Fz at this
        rw [if_pos (List.mem_append_left _ (mem_live q5 q2 q3))] at this
        cases this
  refine ⟨⟨?_, ?_, fun a m => ?_, fun a m => ?_, fun i a c e1 e2 => ?_, S'.tabs⟩, ⟨fun i a e => ?_, smF, rfl, exs⟩, sm⟩
  · show (ρ.ad ++ adx).length = _
    rw [List.length_append, List.length_append, hl, hlx]
  · exact List.nodup_append.mpr ⟨S.nd, hnd, fun a ha b hb z => nold b hb (z ▸ ha)⟩
  · rcases List.mem_append.mp m with m | m
    · obtain ⟨i, ei⟩ := List.getElem?_of_mem m
      by_cases hi : i ∈ is
      · obtain ⟨j, ej⟩ := List.getElem?_of_mem hi
        exact S'.has a (List.mem_of_getElem? (inI ej ei).1)
      · obtain ⟨o, eo, nt⟩ := S.has a m
        exact ⟨o, stay hi ei o eo, nt⟩
    · obtain ⟨j, ej⟩ := List.getElem?_of_mem m
      obtain ⟨x, c, q1, q2, _⟩ := newAd ej
      exact S'.has a (List.mem_of_getElem? q2)
  · obtain ⟨n, o, eo, mu⟩ := S.ex a m
    refine ⟨fun z => ?_, o, by rw [exs a m]; exact eo, mu⟩
    rcases List.mem_append.mp z with z | z
    · exact n z
    · obtain ⟨j, ej⟩ := List.getElem?_of_mem z
      obtain ⟨x, c, q1, q2, _⟩ := newAd ej
      exact (S'.ex a (by rw [st.exq]; exact List.mem_append_right _ m)).1 (List.mem_of_getElem? q2)
  · have e1 : (ρ.ad ++ adx)[i]? = some a := e1
    by_cases hi : i < ρ.ad.length
    · rw [List.getElem?_append_left hi] at e1
      rw [List.getElem?_append_left (by rw [← hl]; exact hi)] at e2
      by_cases hin' : i ∈ is
      · obtain ⟨j, ej⟩ := List.getElem?_of_mem hin'
        obtain ⟨q1, c', q2, q3⟩ := inI ej e1
        rw [e2] at q3
        cases q3
        exact (S'.cell j a c q1 q2).same sm fun o e => e
      · rw [wb_out hin'] at e2
        exact (S.cell i a c e1 e2).same smF (stay hin' e1)
    · rw [List.getElem?_append_right (Nat.le_of_not_lt hi)] at e1
      rw [List.getElem?_append_right (by rw [← hl]; exact Nat.le_of_not_lt hi), ← hl] at e2
      obtain ⟨m, q1, q2, q3, q4⟩ := hin _ a c e1 e2
      exact (S'.cell m a c q2 q3).same sm fun o e => e
  · show (ρ.ad ++ adx)[i]? = some a
    rw [List.getElem?_append_left (List.getElem?_eq_some_iff.mp e).1]
    exact e
theorem loc_fin {E : XK} {g : List RV → M RV} {is : List Nat} {cs : Hs} {args : List RV} {Q : VK} (p : Pick C ρ h H is cs) (F : Fin C E (RepV C.K) ρ h H (locEnd is h (g args cs)) Q) : Fin C E (RepV C.K) (subPl ρ h is) cs H (g args cs) Q := by
  cases hg : g args cs with
  | stuck => rw [hg] at F; exact F.elim
  | err c t h' =>
    rw [hg] at F
    intro ρ' H' d x S' st ed r
    obtain ⟨S2, st2, sm⟩ := p.back S' st (adx := []) (hx := []) rfl .nil fun _ _ _ e => by cases e
    simp only [List.append_nil] at S2 st2 sm
    exact F _ _ d x S2 st2 ed (Rep.same sm r)
  | ok v h' =>
    rw [hg] at F
    intro ρ' H' b S' st r
    obtain ⟨S2, st2, sm⟩ := p.back S' st (adx := []) (hx := []) rfl .nil fun _ _ _ e => by cases e
    simp only [List.append_nil] at S2 st2 sm
    cases v with
    | t t => exact F _ _ b S2 st2 (Rep.same sm r)
    | r m =>
      obtain ⟨a, ea, rfl⟩ := r
      unfold locEnd at F
      dsimp only at F
      split at F
      · rename_i i ei
        obtain ⟨a', c, q1, q2, q3, q4⟩ := p.at_ ei
        have := st.pre m a' q3
        rw [ea] at this
        cases this
        exact F _ _ _ S2 st2 ⟨a, q1, rfl⟩
      · rename_i en
        split at F
        · rename_i t et
          have := S'.cell m a _ ea et
          exact F _ _ _ S2 st2 (Rep.same sm this)
        · rename_i c nfz ec
          have lc : c.live = true := by
            cases c with
            | fz t => exact (nfz t rfl).elim
            | _ => rfl
          obtain ⟨S3, st3, sm3⟩ := p.back S' st (adx := [a]) (hx := [c]) rfl (by simp) fun j b d e1 e2 => by
            cases j with
            | zero => cases e1; cases e2; exact ⟨m, List.getElem?_eq_none_iff.mp en, ea, ec, lc⟩
            | succ j => cases e1
          refine F _ _ _ S3 st3 ⟨a, ?_, rfl⟩
          show (ρ.ad ++ [a])[h.length]? = some a
          rw [← p.S.len, List.getElem?_append_right (Nat.le_refl _), Nat.sub_self]
          rfl
        · exact F.elim
end
theorem spI_loc {C : Sur} {g : List RV → M RV} {n : Nat} {vs : List V} {H : Hp} {Q : VK} {E : XK} (s : spI C (loc g) n vs H Q E) : spI C g n vs H Q E := by
  obtain ⟨hl, ρ, h, args, S, rs, F⟩ := s
  unfold loc at F
  split at F
  · rename_i nd
    split at F
    · rename_i cs pk
      have p : Pick C ρ h H (refsOf args) cs := ⟨S, nd, pk⟩
      exact ⟨hl, _, cs, _, p.hst, p.args (pre := []) rs rfl, loc_fin p F⟩
    · exact F.elim
  · exact F.elim
theorem renum_len : ∀ {k : Nat} {args : List RV}, (renum k args).length = args.length
  | _, [] => rfl
  | k, .t t :: vs => by unfold renum; rw [List.length_cons, List.length_cons, renum_len]
  | k, .r n :: vs => by unfold renum; rw [List.length_cons, List.length_cons, renum_len]
theorem FI.loc {P : Program} {w : World} {K : PySem.W.Frag} {mg : Str → Option Value} {base : Heap} {tb : List (Addr × Str)} {k : Nat} {f : Addr} {g : List RV → M RV} (h : FI P w K mg base tb k f g) : FI P w K mg base tb k f (Py.loc g) := by
  obtain ⟨⟨fd, ps, FG, hb, hn⟩, kp⟩ := h
  refine ⟨⟨fd, ps, ⟨fun vs H Q E s => FG.len vs H Q E (spI_loc s), fun A outer s H args us vs Q E h1 h2 h3 h4 h5 h => FG.run A outer s H args us vs Q E h1 h2 h3 h4 h5 (spI_loc h)⟩, hb, fun vs h hl => ?_⟩, kp⟩
  unfold Py.loc
  split
  · split
    · rw [hn _ _ (by rw [renum_len]; exact hl)]
      rfl
    · rfl
  · rfl
end Py

set_option Elab.async false
set_option linter.all false
set_option maxRecDepth 100000
set_option maxHeartbeats 4000000
namespace Py
open PySem PySem.Spec PyProof.Rows L2 Lw LamX
/-! ### the head, checked by a table -/
def gloB (K : PySem.W.Frag) (x : Str) : Bool := He.eqO (PySem.W.nsIn K mainGlobals x) (some (some (.ref (He.ga K x))))
def constB (K : PySem.W.Frag) (p : Str × T) : Bool := match p.2 with
  | .int i => He.Fa.ok K (.int p.1 i)
  | .str z => He.Fa.ok K (.str p.1 z)
  | _ => false
def clsFB (K : PySem.W.Frag) (c : Str) : Bool := He.Fa.ok K (.cls c) && (He.eqO (PySem.W.findIn K (.ref (He.ga K c)) "__class__") (some (some (.builtin "object.__class__"))) && (He.eqO (PySem.W.specialIn K (.builtin "object.__class__") "__get__") (some (some (.builtin "getset_descriptor.__get__"))) &&
  (decide (PySem.W.takesIn K (.builtin "object.__class__") = some true) && (decide (PySem.W.mroIn K (He.ga K c) (.type "object") = some true) && (PySem.W.selfFirst K (He.ga K c) && (He.Fa.ok K (.mkr c) && (He.eqO (PySem.W.findIn K (.ref (He.ga K c)) "__ne__") (some (some (.builtin "object.__ne__"))) && gloB K c)))))))
def metB (K : PySem.W.Frag) (p : Str × Str) : Bool := He.eqO (PySem.W.findIn K (.ref (He.ga K p.1)) p.2) (some (some (.ref (He.ma K (He.ga K p.1) p.2)))) && PySem.W.isFn K (.ref (He.ma K (He.ga K p.1) p.2))
def errB (K : PySem.W.Frag) (root c : Str) : Bool := xcB K (He.ga K c) && (He.eqO (PySem.W.findIn K (.ref (He.ga K c)) "__init__") (some (some (.ref (He.ma K (He.ga K root) "__init__")))) && gloB K c)
def chkB (B : Tbl) (fr : List Str) (root : Str) (K : PySem.W.Frag) : Bool :=
  (B.cls.all fun c => clsFB K c) && ((B.errs.all fun c => errB K root c) && ((B.isa.all fun p => decide (PySem.W.kitOne K (p.1.val K) (p.2.1.val K) = some p.2.2)) && ((B.exm.all fun p => decide (PySem.W.exmOne K (.ref (He.ga K p.1)) (.ref (He.ga K p.2.1)) = some p.2.2)) &&
  ((B.nfs.all fun p => PySem.W.notFirst K (He.ga K p.1) (p.2.val K)) && ((B.fld.all fun p => He.Fa.ok K (.noat p.1 p.2)) && ((B.mets.all fun p => metB K p) && ((B.props.all fun p => propB K (He.ga K p.1) p.2) && ((B.stats.all fun p => statB K (He.ga K p.1) p.2) &&
  ((fr.all fun x => He.eqO (PySem.W.nsIn K mainGlobals x) (some none)) && ((B.consts.all fun p => constB K p) && ((B.defs.all fun x => gloB K x) && decide (PySem.W.typeIn K (.ref (He.ma K (He.ga K root) "__init__")) = some (.type "function")))))))))))))
/-- what the head gives -/
structure Head (K : PySem.W.Frag) (mg : Str → Option Value) (B : Tbl) (fr : List Str) (root : Str) : Prop where
  fa : Facts2 K B
  nm : Names2 K mg fr B.consts
  ety : PySem.W.typeIn K (.ref (He.ma K (He.ga K root) "__init__")) = some (.type "function")
  eat : ∀ c, B.errs.contains c = true → PySem.W.findIn K (.ref (He.ga K c)) "__init__" = some (some (.ref (He.ma K (He.ga K root) "__init__"))) ∧ mg c = some (.ref (He.ga K c))
  cls : ∀ c, B.cls.contains c = true → mg c = some (.ref (He.ga K c))
  defs : ∀ x ∈ B.defs, mg x = some (.ref (He.ga K x))
theorem head_of {K : PySem.W.Frag} {h : Heap} {mg : Str → Option Value} {B : Tbl} {fr : List Str} {root : Str} (X : K.In h) (G : h.Ns mainGlobals mg) (c : chkB B fr root K = true) : Head K mg B fr root := by
  unfold chkB at c
  obtain ⟨c1, c⟩ := He.ba c
  obtain ⟨c2, c⟩ := He.ba c
  obtain ⟨c3, c⟩ := He.ba c
  obtain ⟨c4, c⟩ := He.ba c
  obtain ⟨c5, c⟩ := He.ba c
  obtain ⟨c6, c⟩ := He.ba c
  obtain ⟨c7, c⟩ := He.ba c
  obtain ⟨c8, c⟩ := He.ba c
  obtain ⟨c9, c⟩ := He.ba c
  obtain ⟨c10, c⟩ := He.ba c
  obtain ⟨c11, c⟩ := He.ba c
  obtain ⟨c12, c13⟩ := He.ba c
  have glo : ∀ {x : Str}, gloB K x = true → mg x = some (.ref (He.ga K x)) := fun h => PySem.W.mg_of X G (He.eqO_ok h)
  have k1 : ∀ c, B.cls.contains c = true → clsFB K c = true := fun c hc => List.all_eq_true.mp c1 c (contains_mem hc)
  have k2 : ∀ c, B.errs.contains c = true → errB K root c = true := fun c hc => List.all_eq_true.mp c2 c (contains_mem hc)
  have cl : ∀ c, B.cls.contains c = true → ClsF K (He.ga K c) ∧ Mk K (He.ga K c) (He.ma K (He.ga K c) "__init__") ∧ PySem.W.findIn K (.ref (He.ga K c)) "__ne__" = some (some (.builtin "object.__ne__")) ∧ mg c = some (.ref (He.ga K c)) := fun c hc => by
    have d := k1 c hc
    unfold clsFB at d
    obtain ⟨d1, d⟩ := He.ba d
    obtain ⟨d2, d⟩ := He.ba d
    obtain ⟨d3, d⟩ := He.ba d
    obtain ⟨d4, d⟩ := He.ba d
    obtain ⟨d5, d⟩ := He.ba d
    obtain ⟨d6, d⟩ := He.ba d
    obtain ⟨d7, d⟩ := He.ba d
    obtain ⟨d8, d9⟩ := He.ba d
    exact ⟨⟨He.cls_ok d1, He.eqO_ok d2, He.eqO_ok d3, of_decide_eq_true d4, of_decide_eq_true d5, d6⟩, He.mkr_ok d7, He.eqO_ok d8, glo d9⟩
  have er : ∀ c, B.errs.contains c = true → XcC K (He.ga K c) ∧ PySem.W.findIn K (.ref (He.ga K c)) "__init__" = some (some (.ref (He.ma K (He.ga K root) "__init__"))) ∧ mg c = some (.ref (He.ga K c)) := fun c hc => by
    have d := k2 c hc
    unfold errB at d
    obtain ⟨d1, d⟩ := He.ba d
    obtain ⟨d2, d3⟩ := He.ba d
    exact ⟨xcB_ok d1, He.eqO_ok d2, glo d3⟩
  refine { fa := { cls := fun c hc => (cl c hc).1, errs := fun c hc => (er c hc).1, isa := fun p hp => of_decide_eq_true (List.all_eq_true.mp c3 p hp), exm := fun p hp => of_decide_eq_true (List.all_eq_true.mp c4 p hp), nfs := fun p hp => List.all_eq_true.mp c5 p hp, fld := fun p hp => He.noat_ok (List.all_eq_true.mp c6 p hp), mets := fun p hp => ?_, props := fun p hp => propB_ok (List.all_eq_true.mp c8 p hp), stats := fun p hp => statB_ok (List.all_eq_true.mp c9 p hp), mk_ := fun c hc => (cl c hc).2.1, ne := fun c hc => (cl c hc).2.2.1 }, nm := { fr := fun x hx => PySem.W.mg_none_of X G (He.eqO_ok (List.all_eq_true.mp c10 x hx)), cs := fun p hp => ?_ }, ety := of_decide_eq_true c13, eat := fun c hc => (er c hc).2, cls := fun c hc => (cl c hc).2.2.2, defs := fun x hx => glo (List.all_eq_true.mp c12 x hx) }
  · have d := List.all_eq_true.mp c7 p hp
    unfold metB at d
    obtain ⟨d1, d2⟩ := He.ba d
    exact ⟨He.eqO_ok d1, d2⟩
  · have d := List.all_eq_true.mp c11 p hp
    unfold constB at d
    obtain ⟨x, t⟩ := p
    cases t with
    | int i =>
      obtain ⟨tk, e⟩ := He.int_ok X G d
      exact ⟨_, .int i, e, ⟨tk, rfl⟩, fun _ => .int i⟩
    | str z =>
      obtain ⟨tk, e⟩ := He.str_ok X G d
      exact ⟨_, .str z, e, ⟨tk, rfl⟩, fun _ => .str z⟩
    | _ => cases d
/-! ### the machine's defs by a table -/
def nextCF (tab : List (FK × (CF → List RV → M RV))) (cf : CF) : CF := fun fk => match tab.lookup fk with
  | some g => loc (g cf)
  | none => fun _ _ => .stuck
def cfn (tab : List (FK × (CF → List RV → M RV))) : Nat → CF
  | 0 => fun _ _ _ => .stuck
  | n + 1 => nextCF tab (cfn tab n)
theorem FI.dead {P : Program} {w : World} {K : PySem.W.Frag} {mg : Str → Option Value} {base : Heap} {tb : List (Addr × Str)} {k k' : Nat} {f : Addr} {g : List RV → M RV} (h : FI P w K mg base tb k f g) : FI P w K mg base tb k' f (fun _ _ => .stuck) := by
  obtain ⟨⟨fd, ps, FG, hb, hn⟩, kp⟩ := h
  refine ⟨⟨fd, ps, ⟨fun vs H Q E h => ?_, fun A outer s H args us vs Q E _ _ _ _ _ h => ?_⟩, hb, fun _ _ _ => rfl⟩, kp⟩
  · obtain ⟨_, _, _, _, _, _, F⟩ := h
    exact F.elim
  · obtain ⟨_, _, _, _, _, _, F⟩ := h
    exact F.elim
theorem all_nil {α : Type} {P : α → Prop} : ∀ x ∈ ([] : List α), P x := fun _ h => by cases h
theorem all_cons {α : Type} {P : α → Prop} {a : α} {l : List α} (h : P a) (t : ∀ x ∈ l, P x) : ∀ x ∈ a :: l, P x := fun x hx => by
  rcases List.mem_cons.mp hx with rfl | hx
  · exact h
  · exact t x hx
theorem all_cls {P : Str → Prop} {l : List Str} (h : ∀ x ∈ l, P x) : ∀ c, l.contains c = true → P c := fun c hc => h c (contains_mem hc)
/-- the defs at every level -/
theorem defs_up {E : En} {B : Tbl} {tab : List (FK × (CF → List RV → M RV))} (step : ∀ (k : Nat) (cf : CF), DefsE E B k cf → DefsE E B (k + 5) (nextCF tab cf)) (h0 : DefsE E B 0 fun _ _ _ => .stuck) : ∀ n, DefsE E B (5 * n) (cfn tab n)
  | 0 => h0
  | n + 1 => by
    have := step _ _ (defs_up step h0 n)
    rw [Nat.mul_succ]
    exact this
theorem FI.zero {P : Program} {w : World} {K : PySem.W.Frag} {mg : Str → Option Value} {base : Heap} {tb : List (Addr × Str)} {f : Addr} {fd : FuncData} {x qual : Str} {params : Arguments} {body : List Stmt} {scope : Scope} {ps : List Str} (F : FunD K x qual params body scope [] [] f fd) (hb : Binds K fd ps []) : FI P w K mg base tb 0 f (fun _ _ => .stuck) := by
  refine ⟨⟨fd, ps, ⟨fun vs H Q E h => ?_, fun A outer s H args us vs Q E _ _ _ _ _ h => ?_⟩, hb, fun _ _ _ => rfl⟩, F.kp⟩
  · obtain ⟨_, _, _, _, _, _, F⟩ := h
    exact F.elim
  · obtain ⟨_, _, _, _, _, _, F⟩ := h
    exact F.elim
/-! ### the law's own run -/
def spScr (K : PySem.W.Frag) (T0 : List (Addr × Str)) (n : Nat) : Sp := fun vs H Q _ => ∃ (a : Addr) (ns : List Int), vs = [.ref a] ∧ ns.length ≤ n ∧ SqL K H a (ns.map V.int) ∧ Tabs T0 H ∧ ∀ H', Q (.bl true) H'
theorem law_fn {P : Program} {w : World} {K : PySem.W.Frag} {mg : Str → Option Value} {base : Heap} {tb : List (Addr × Str)} {k n : Nat} {f : Addr} {g : List RV → M RV} {x : Str} {fd : FuncData} {ps : List Str} (FG : FnG P w K mg base (L2.CX P w) k f fd ps (spI ⟨K, tb⟩ g ps.length)) (hp : ps = [x])
    (run : ∀ ns : List Int, ns.length ≤ n → ∃ h', g [.t (.scr (ns.map .int))] [] = .ok (.t (.bl true)) h') : FnG P w K mg base CX0 k f fd [x] (spScr K tb n) := by
  subst hp
  refine ⟨fun vs H Q E h => ?_, fun A outer s H args us vs Q E hg hr e0 hb hv h => ?_⟩
  · obtain ⟨a, ns, rfl, _⟩ := h
    rfl
  · obtain ⟨a, ns, rfl, hl, hs, hT, q⟩ := h
    obtain ⟨h', eq⟩ := run ns hl
    have S0 : Hst ⟨K, tb⟩ ⟨[], []⟩ [] H := ⟨rfl, .nil, fun _ m => (by cases m), fun _ m => (by cases m), fun _ _ _ e => (by cases e), hT⟩
    have fz : ∀ {b : Addr} {o : HO}, H b = some o → (∀ ps, o ≠ .tbl ps) → Fz ⟨[], []⟩ [] H b = some o := fun e t => Fz_of e (fun z => by cases z) t
    have hs' : SqL K (Fz ⟨[], []⟩ [] H) a (ns.map V.int) := by
      rcases hs with (e | ⟨o, e⟩) | q
      · exact .inl (.inl (fz e fun _ z => by cases z))
      · exact .inl (.inr ⟨o, fz e fun _ z => by cases z⟩)
      · exact .inr q
    refine codeAny_mono (FG.run A outer s H args us [.ref a] Q (fun _ _ _ => False) hg hr e0 hb hv ⟨rfl, ⟨[], []⟩, [], [.t (.scr (ns.map .int))], S0, .cons (.scr hs' (reps_ints ns)) .nil, ?_⟩) fun res s' hq => ?_
    · rw [eq]
      intro ρ' H' b _ _ r
      cases r
      exact q H'
    · match res, hq with
      | .error er, hq => obtain ⟨_, _, _, _, _, _, _, _, _, _, _, _, z⟩ := hq; exact z.elim
      | .ok (.ret u), hq => exact hq
      | .ok .next, hq => exact hq.elim
      | .ok .brk, hq => exact hq.elim
      | .ok .cont, hq => exact hq.elim
def tbUq (l : List (Addr × Str)) : Bool := l.all fun p => l.all fun q => decide (p.1 ≠ q.1) || decide (p.2 = q.2)
theorem tbUq_ok {l : List (Addr × Str)} (h : tbUq l = true) {q : Addr × Str} (hq : q ∈ l) : ∀ p ∈ l, p.1 = q.1 → p.2 = q.2 := fun p hp e => by
  have h1 := List.all_eq_true.mp (List.all_eq_true.mp h p hp) q hq
  rw [Bool.or_eq_true, decide_eq_true_eq, decide_eq_true_eq] at h1
  exact h1.elim (fun z => absurd e z) id
end Py

set_option Elab.async false
set_option linter.all false
set_option maxRecDepth 100000
set_option maxHeartbeats 4000000
/-! The machine's pure side: loops, comprehensions, cells. -/
namespace Py
open PySem PySem.Spec PyProof.Rows L2 Lw LamX
/-- a loop that goes on at every turn -/
theorem forL_inv {step : T → SM} (I : Nat → Ev → Hs → Prop) : ∀ {ts : List T} (k : Nat) {env : Ev} {h : Hs}, I k env h → (∀ i t env h, ts[i]? = some t → I (k + i) env h → ∃ env' h', step t env h = .next env' h' ∧ I (k + i + 1) env' h') → ∃ env' h', forL step ts env h = .next env' h' ∧ I (k + ts.length) env' h'
  | [], k, env, h, h0, _ => ⟨env, h, rfl, h0⟩
  | t :: ts, k, env, h, h0, hs => by
    obtain ⟨e1, h1, q1, i1⟩ := hs 0 t env h rfl h0
    obtain ⟨e2, h2, q2, i2⟩ := forL_inv (ts := ts) I (k + 1) i1 fun i t env h et ii => by
      have := hs (i + 1) t env h et (by rw [show k + (i + 1) = k + 1 + i by omega]; exact ii)
      rw [show k + (i + 1) + 1 = k + 1 + i + 1 by omega] at this
      exact this
    refine ⟨e2, h2, ?_, by rw [List.length_cons, show k + (ts.length + 1) = k + 1 + ts.length by omega]; exact i2⟩
    unfold forL
    rw [q1]
    exact q2
/-- a comprehension whose items come one by one -/
theorem lcAll_inv {step : T → M (Option T)} (I : Nat → Hs → Prop) (R : Nat → T → Prop) : ∀ {ts : List T} (k : Nat) {h : Hs}, I k h → (∀ i t h, ts[i]? = some t → I (k + i) h → ∃ u h', step t h = .ok (some u) h' ∧ R (k + i) u ∧ I (k + i + 1) h') →
    ∃ us h', lcAll step ts h = .ok us h' ∧ us.length = ts.length ∧ (∀ i u, us[i]? = some u → R (k + i) u) ∧ I (k + ts.length) h'
  | [], k, h, h0, _ => ⟨[], h, rfl, rfl, (fun _ _ e => nomatch e), h0⟩
  | t :: ts, k, h, h0, hs => by
    obtain ⟨u, h1, q1, r1, i1⟩ := hs 0 t h rfl h0
    obtain ⟨us, h2, q2, l2, r2, i2⟩ := lcAll_inv (ts := ts) I R (k + 1) i1 fun i t h et ii => by
      have := hs (i + 1) t h et (by rw [show k + (i + 1) = k + 1 + i by omega]; exact ii)
      rw [show k + (i + 1) = k + 1 + i by omega] at this
      exact this
    refine ⟨u :: us, h2, ?_, by rw [List.length_cons, List.length_cons, l2], fun i v e => ?_, by rw [List.length_cons, show k + (ts.length + 1) = k + 1 + ts.length by omega]; exact i2⟩
    · unfold lcAll
      rw [q1]
      dsimp only
      rw [q2]
    · cases i with
      | zero => cases e; exact r1
      | succ i =>
        have := r2 i v e
        rw [show k + (i + 1) = k + 1 + i by omega]
        exact this
/-- .. where the state stays -/
theorem lcAll_map {step : T → M (Option T)} {f : T → T} {h : Hs} : ∀ {ts : List T}, (∀ t ∈ ts, step t h = .ok (some (f t)) h) → lcAll step ts h = .ok (ts.map f) h
  | [], _ => rfl
  | t :: ts, hs => by
    unfold lcAll
    rw [hs t List.mem_cons_self]
    dsimp only
    rw [lcAll_map fun t ht => hs t (List.mem_cons_of_mem _ ht)]
    rfl
theorem set_take {h : Hs} {p : Nat} {c : Cell} : (h.set p c).take h.length = h.set p c := by
  rw [List.take_of_length_le]
  rw [List.length_set]
  exact Nat.le_refl _
theorem get_set {h : Hs} {p : Nat} {c d : Cell} (hp : h[p]? = some d) : (h.set p c)[p]? = some c := by
  have := (List.getElem?_eq_some_iff.mp hp).1
  simp [this]
theorem take_self {h : Hs} : h.take h.length = h := List.take_length
end Py

set_option Elab.async false
set_option linter.all false
set_option maxRecDepth 100000
set_option maxHeartbeats 4000000
/-! The law's draws, as each law has them: pots. -/
namespace Py
open PySem PySem.Spec PyProof.Rows L2 Lw LamX
theorem renum_none : ∀ {k : Nat} {args : List RV}, refsOf args = [] → renum k args = args
  | _, [], _ => rfl
  | k, .t t :: vs, e => by
    unfold renum
    rw [renum_none (args := vs) e]
  | k, .r n :: vs, e => by cases e
/-- a call that is handed trees alone -/
theorem loc_none {g : List RV → M RV} {args : List RV} {h h' : Hs} {v : T} (hr : refsOf args = []) (e : g args [] = .ok (.t v) h') : loc g args h = .ok (.t v) h := by
  unfold loc
  rw [hr, renum_none hr]
  simp [pick, e, locEnd, wb]
theorem loc_noneE {g : List RV → M RV} {args : List RV} {h h' : Hs} {c : Str} {v : T} (hr : refsOf args = []) (e : g args [] = .err c v h') : loc g args h = .err c v h := by
  unfold loc
  rw [hr, renum_none hr]
  simp [pick, e, locEnd, wb]
/-- .. one that makes a cell -/
theorem loc_noneC {g : List RV → M RV} {args : List RV} {h : Hs} {c : Cell} (hr : refsOf args = []) (e : g args [] = .ok (.r 0) [c]) (lc : ∀ t, c ≠ .fz t) : loc g args h = .ok (.r h.length) (h ++ [c]) := by
  unfold loc
  rw [hr, renum_none hr]
  cases c with
  | fz t => exact absurd rfl (lc t)
  | _ => simp [pick, e, locEnd, wb]
/-- a call that is handed one cell -/
theorem loc_one {g : List RV → M RV} {args : List RV} {h h' : Hs} {p : Nat} {c0 c1 : Cell} {v : T} (hr : refsOf args = [p]) (hp : h[p]? = some c0) (e : g (renum 0 args) [c0] = .ok (.t v) (c1 :: h')) : loc g args h = .ok (.t v) (h.set p c1) := by
  unfold loc
  rw [hr]
  simp [pick, hp, e, locEnd, wb]
theorem gL1 {f : List RV → M RV} {a : Ev → M RV} {env : Ev} {h h1 : Hs} {v : RV} (e : a env h = .ok v h1) : gL f (Py.gCons a Py.gNil) env h = f [v] h1 := by
  simp [gL, Py.gCons, Py.gNil, Res.bind, e]
theorem gL2 {f : List RV → M RV} {a b : Ev → M RV} {env : Ev} {h h1 h2 : Hs} {v w : RV} (e : a env h = .ok v h1) (e2 : b env h1 = .ok w h2) : gL f (Py.gCons a (Py.gCons b Py.gNil)) env h = f [v, w] h2 := by
  simp [gL, Py.gCons, Py.gNil, Res.bind, e, e2]
theorem g2e {f : RV → RV → M RV} {a b : Ev → M RV} {env : Ev} {h h1 h2 : Hs} {v w : RV} (e : a env h = .ok v h1) (e2 : b env h1 = .ok w h2) : g2 f a b env h = f v w h2 := by
  simp [g2, Res.bind, e, e2]
theorem vAndT {a b : Ev → M RV} {env : Ev} {h h1 : Hs} (e : a env h = .ok (.t (.bl true)) h1) : vAnd a b env h = b env h1 := by
  simp [vAnd, asB, Res.bind, e]
theorem vAndF {a b : Ev → M RV} {env : Ev} {h h1 : Hs} (e : a env h = .ok (.t (.bl false)) h1) : vAnd a b env h = .ok (.t (.bl false)) h1 := by
  simp [vAnd, asB, Res.bind, e]
theorem gTruB {a : Ev → M RV} {env : Ev} {h h1 : Hs} {b : Bool} (e : a env h = .ok (.t (.bl b)) h1) : gTru a env h = .ok b h1 := by
  simp [gTru, tru, look, truth, Res.bind, e]
theorem gAsBB {a : Ev → M RV} {env : Ev} {h h1 : Hs} {b : Bool} (e : a env h = .ok (.t (.bl b)) h1) : gAsB a env h = .ok b h1 := by
  simp [gAsB, asB, Res.bind, e]
theorem bNotB {a : Ev → M Bool} {env : Ev} {h h1 : Hs} {b : Bool} (e : a env h = .ok b h1) : bNot a env h = .ok (!b) h1 := by
  simp [bNot, Res.bind, e]
theorem sIfT {c : Ev → M Bool} {a b : SM} {env : Ev} {h h1 : Hs} (e : c env h = .ok true h1) : sIf c a b env h = a env h1 := by
  simp [sIf, Res.sb, e]
theorem sIfF {c : Ev → M Bool} {a b : SM} {env : Ev} {h h1 : Hs} (e : c env h = .ok false h1) : sIf c a b env h = b env h1 := by
  simp [sIf, Res.sb, e]
theorem sSeqN {a b : SM} {env env1 : Ev} {h h1 : Hs} (e : a env h = .next env1 h1) : sSeq a b env h = b env1 h1 := by
  simp [sSeq, SRes.then, e]
theorem sSeqR {a b : SM} {env : Ev} {h h1 : Hs} {v : RV} (e : a env h = .ret v h1) : sSeq a b env h = .ret v h1 := by
  simp [sSeq, SRes.then, e]
theorem sSeqE {a b : SM} {env env1 : Ev} {h h1 : Hs} {c : Str} {t : T} (e : a env h = .err c t env1 h1) : sSeq a b env h = .err c t env1 h1 := by
  simp [sSeq, SRes.then, e]
theorem run_ret {np nn : Nat} {b : SM} {args : List RV} {h h' : Hs} {v : T} (hl : args.length = np) (e : b (args.map some ++ List.replicate (nn - np) none) h = .ret (.t v) h') : runDef false np nn b args h = .ok (.t v) (h'.take h.length) := by
  unfold runDef
  rw [if_pos hl, e]
  rfl
theorem iRng1_at {gs : Ev → M (List RV)} {env : Ev} {h h1 : Hs} {j : Int} (e : gs env h = .ok [.t (.int j)] h1) (hj : inRg j = true) : Py.iRng1 gs env h = .ok (rngT 0 j) h1 := by
  simp [Py.iRng1, Res.bind, e, hj]
theorem sRetE {e0 : Ev → M RV} {env : Ev} {h h1 : Hs} {v : RV} (e : e0 env h = .ok v h1) : sRet e0 env h = .ret v h1 := by
  simp [sRet, Res.sb, e]
theorem sAsgN {i : Nat} {e0 : Ev → M RV} {env : Ev} {h h1 : Hs} {v : RV} (e : e0 env h = .ok v h1) : sAsg (aName i) e0 env h = .next (env.set i (some v)) h1 := by
  simp [sAsg, aName, Res.sb, e]
theorem small_line {k : Nat} (h : k ≤ 100000) : k ≤ sizeLine := by rw [sizeLine_eq]; omega
/-- a pot, at most k draws taken from it -/
def PotC (c : Cell) (k : Nat) : Prop := ∃ a b n : Int, c = .lst [.int a, .int b, .int n] ∧ (0 ≤ b ∧ b < 2 ^ 62) ∧ 0 ≤ n ∧ n ≤ k
def takeB : SM := (sSeq (sIf (gAsB (g2 (gOrd .Gt) (g2 gIdx (gVar 0) (gC (.int 0))) (gC (.int 0)))) (sSeq (sAsg (aName 2) (g2 (gBin false .Mod) (gL (gR1 fInt) (gCons (g2 gIdx (gVar 0) (gC (.int 0))) gNil)) (gVar 1))) (sSeq (sSub (gVar 0) (gC (.int 0)) (g2 (gBin false .FloorDiv) (g2 gIdx (gVar 0) (gC (.int 0))) (gVar 1))) (sSeq (sRet (gVar 2)) sNext))) sNext) (sSeq (sSub (gVar 0) (gC (.int 2)) (g2 (gBin false .Add) (g2 gIdx (gVar 0) (gC (.int 2))) (gC (.int 1)))) (sSeq (sAsg (aName 3) (g2 gIdx (gLst false (gCons (gC (.int 2147483647)) (gCons (gC (.int 2147483629)) (gCons (gC (.int 2147483587)) (gCons (gC (.int 2147483579)) (gCons (gC (.int 2147483563)) gNil)))))) (g2 (gBin false .Mod) (gL (gR1 fInt) (gCons (g2 gIdx (gVar 0) (gC (.int 2))) gNil)) (gC (.int 5))))) (sSeq (sAsg (aName 4) (g2 (gBin false .Mod) (gL (gR1 fInt) (gCons (g2 (gBin false .Pow) (gL (gR1 fInt) (gCons (g2 (gBin false .Add) (g2 (gBin false .Add) (g2 gIdx (gVar 0) (gC (.int 1))) (g2 (gBin false .Mult) (g2 (gBin false .Mult) (gC (.int 99809)) (g2 gIdx (gVar 0) (gC (.int 2)))) (g2 gIdx (gVar 0) (gC (.int 2))))) (gC (.int 59))) gNil)) (gC (.int 3))) gNil)) (gVar 3))) (sSeq (sAsg (aName 4) (g2 (gBin false .Mod) (gL (gR1 fInt) (gCons (g2 (gBin false .Mult) (gVar 4) (g2 (gBin false .Add) (g2 (gBin false .Mod) (gL (gR1 fInt) (gCons (gVar 4) gNil)) (gC (.int 10433))) (g2 (gBin false .Mult) (gC (.int 151)) (g2 gIdx (gVar 0) (gC (.int 2)))))) gNil)) (gC (.int 2305843009213693907)))) (sSeq (sRet (g2 (gBin false .Mod) (gL (gR1 fInt) (gCons (g2 (gBin false .FloorDiv) (gVar 4) (gC (.int 143))) gNil)) (gVar 1))) sNext))))))
def ofB (cf : CF) : SM := (sSeq (sRet (g2 gIdx (gVar 1) (gL (cf (.g "_law_take")) (gCons (gVar 0) (gCons (gL (gR1 fLen) (gCons (gVar 1) gNil)) gNil))))) sNext)
def potB : SM := (sSeq (sAsg (aName 2) (gIf (gAsB (g2 (gOrd .Lt) (gVar 1) (gL (gR1 fLen) (gCons (gVar 0) gNil)))) (g2 gIdx (gVar 0) (gVar 1)) (g2 (gBin false .Add) (g2 (gBin false .Mult) (gC (.int 173)) (gVar 1)) (gC (.int 83))))) (sSeq (sAsg (aName 3) (g2 (gBin false .Mult) (g2 (gBin false .Mod) (gL (gR1 fInt) (gCons (gL (gR1 fAbs) (gCons (gVar 2) gNil)) gNil)) (g2 (gBin false .Pow) (g2 (gBin false .Pow) (gC (.int 10)) (gC (.int 60))) (gC (.int 5)))) (gL (gR1 fInt) (gCons (g2 (gOrd .GtE) (gL (gR1 fAbs) (gCons (gVar 2) gNil)) (g2 (gBin false .Pow) (gC (.int 10)) (gC (.int 18)))) gNil)))) (sSeq (sAsg (aName 4) (g2 (gBin false .Mod) (gL (gR1 fInt) (gCons (gVar 2) gNil)) (gC (.int 2305843009213693951)))) (sSeq (sRet (gLst true (gCons (gVar 3) (gCons (g2 (gBin false .Mod) (gL (gR1 fInt) (gCons (g2 (gBin false .Add) (g2 (gBin false .Add) (g2 (gBin false .Mult) (gVar 4) (gC (.int 70313))) (g2 (gBin false .Mult) (g2 (gBin false .Mult) (gC (.int 7297)) (gVar 1)) (gVar 1))) (gC (.int 151))) gNil)) (gC (.int 2305843009213693921))) (gCons (gC (.int 0)) gNil))))) sNext))))
def cellsB : SM := (sSeq (sRet (gRg1 false .lst (gL (gR2 fMax) (gCons (gC (.int 1)) (gCons (gL (gR2 fMin) (gCons (gVar 1) (gCons (gL (gR1 fLen) (gCons (gVar 0) gNil)) gNil))) gNil))))) sNext)
theorem take_big (a b c u : Int) (ha : 0 < a) (hu : 0 < u) (hu2 : u < 1073741824) :
    runDef false 2 5 takeB [.r 0, .t (.int u)] [.lst [.int a, .int b, .int c]] = .ok (.t (.int (a % u))) [.lst [.int (a / u), .int b, .int c]] := by
  unfold runDef takeB
  simp [sSeq, sIf, sAsg, sSub, sRet, sNext, aSub, aName, cellL, toT, gAsB, g2, gL, Py.gCons, Py.gNil, gR1, fInt, gIdx, gVar, gC, Res.bind, Res.sb, SRes.then, look, idxT, ixN, atI, gOrd, Cell.tree, asB, gBin, binOpT, Py.fresh, ha, hu, hu2, defEnd, ordT, List.set]
theorem powOk3 {x : Int} (h0 : 0 ≤ x) (h1 : x < 2 ^ 200) : powOk x 3 = true := by
  have hb : (Builtin.Int.intBits x : Int) ≤ 200 := by
    unfold Builtin.Int.intBits
    split
    · decide
    · rename_i hx
      have hx : x ≠ 0 := by simpa using hx
      have h2 : x.natAbs.log2 < 200 := (Nat.log2_lt (by omega)).mpr (by omega)
      omega
  unfold powOk
  rw [Bool.and_eq_true, decide_eq_true_eq, decide_eq_true_eq]
  omega
theorem take_mix (a b c c1 u : Int) (ha : ¬ 0 < a) (hu : 0 < u) (hb : 0 ≤ b ∧ b < 2 ^ 62) (hc : 0 ≤ c1 ∧ c1 < 2 ^ 40) (hc1 : c + 1 = c1) :
    ∃ v, runDef false 2 5 takeB [.r 0, .t (.int u)] [.lst [.int a, .int b, .int c]] = .ok (.t (.int (v % u))) [.lst [.int a, .int b, .int c1]] := by
  unfold runDef takeB
  have l5 : 5 ≤ sizeLine := small_line (by decide)
  have m1 : mulOk 99809 c1 = true := by unfold mulOk; simp
  have m2 : mulOk (99809 * c1) c1 = true := by
    unfold mulOk
    rw [Bool.or_eq_true]
    right
    rw [Bool.and_eq_true, decide_eq_true_eq, decide_eq_true_eq]
    omega
  have m3 : mulOk 151 c1 = true := by unfold mulOk; simp
  have sq : 99809 * c1 * c1 ≤ 99809 * 2 ^ 80 := by
    have h1 : c1 * c1 ≤ 2 ^ 40 * 2 ^ 40 := Int.mul_le_mul (by omega) (by omega) hc.1 (by decide)
    rw [Int.mul_assoc]
    omega
  have sq0 : 0 ≤ 99809 * c1 * c1 := Int.mul_nonneg (Int.mul_nonneg (by decide) hc.1) hc.1
  have pw : powOk (b + 99809 * c1 * c1 + 59) 3 = true := powOk3 (by omega) (by omega)
  have mm : ∀ x q : Int, 0 < q → q < 2 ^ 62 → ∀ y, mulOk (x % q) y = true := fun x q h1 h2 y => by
    have := Int.emod_nonneg x (Int.ne_of_gt h1)
    have := Int.emod_lt_of_pos x h1
    unfold mulOk
    rw [Bool.or_eq_true]
    left
    rw [Bool.and_eq_true, decide_eq_true_eq, decide_eq_true_eq]
    omega
  have c5 : c1 % 5 = 0 ∨ c1 % 5 = 1 ∨ c1 % 5 = 2 ∨ c1 % 5 = 3 ∨ c1 % 5 = 4 := by omega
  rcases c5 with e | e | e | e | e <;>
    simp [sSeq, sIf, sAsg, sSub, sRet, sNext, aSub, aName, cellL, toT, gAsB, g2, gL, Py.gCons, Py.gNil, gR1, fInt, gIdx, gVar, gC, Res.bind, Res.sb, SRes.then, look, idxT, ixN, atI, gOrd, Cell.tree, asB, gBin, binOpT, Py.fresh, ha, hu, defEnd, ordT, List.set, Py.gLst, toTs, l5, hc1, e, m1, m2, m3, pw, mm] <;> exact ⟨_, rfl⟩
theorem take_sp {k : Nat} {c : Cell} (u : Int) (P : PotC c k) (hk : k < 2 ^ 39) (hu : 0 < u) (hu2 : u < 1073741824) :
    ∃ (d : Nat) (c' : Cell), d < u.toNat ∧ runDef false 2 5 takeB [.r 0, .t (.int u)] [c] = .ok (.t (.int d)) [c'] ∧ PotC c' (k + 1) := by
  obtain ⟨a, b, n, rfl, hb, h0, h1⟩ := P
  have fin : ∀ (v : Int) (h' : Hs), runDef false 2 5 takeB [.r 0, .t (.int u)] [.lst [.int a, .int b, .int n]] = .ok (.t (.int (v % u))) h' → ∃ d : Nat, d < u.toNat ∧ runDef false 2 5 takeB [.r 0, .t (.int u)] [.lst [.int a, .int b, .int n]] = .ok (.t (.int d)) h' := fun v h' e => by
    have a1 := Int.emod_nonneg v (Int.ne_of_gt hu)
    have a2 := Int.emod_lt_of_pos v hu
    refine ⟨(v % u).toNat, by omega, ?_⟩
    rw [e, Int.toNat_of_nonneg a1]
  by_cases ha : 0 < a
  · obtain ⟨d, hd, e⟩ := fin a _ (take_big a b n u ha hu hu2)
    exact ⟨d, _, hd, e, _, _, _, rfl, hb, h0, by omega⟩
  · obtain ⟨v, e⟩ := take_mix a b n (n + 1) u ha hu hb (by omega) rfl
    obtain ⟨d, hd, e⟩ := fin v _ e
    exact ⟨d, _, hd, e, _, _, _, rfl, hb, by omega, by omega⟩
theorem take_at {cf : CF} {k p : Nat} {c : Cell} {h : Hs} (u : Int) (hc : cf (.g "_law_take") = loc (runDef false 2 5 takeB)) (hp : h[p]? = some c) (P : PotC c k) (hk : k < 2 ^ 39) (hu : 0 < u) (hu2 : u < 1073741824) :
    ∃ (d : Nat) (c' : Cell), d < u.toNat ∧ cf (.g "_law_take") [.r p, .t (.int u)] h = .ok (.t (.int d)) (h.set p c') ∧ PotC c' (k + 1) := by
  obtain ⟨d, c', hd, e, P'⟩ := take_sp u P hk hu hu2
  exact ⟨d, c', hd, by rw [hc]; exact loc_one rfl hp e, P'⟩
theorem of_sp {cf : CF} {k : Nat} {c : Cell} (xs : List T) (hc : cf (.g "_law_take") = loc (runDef false 2 5 takeB)) (P : PotC c k) (hk : k < 2 ^ 39) (h1 : xs ≠ []) (h2 : xs.length < 1073741824) :
    ∃ (d : Nat) (hd : d < xs.length) (c' : Cell), runDef false 2 2 (ofB cf) [.r 0, .t (.lst xs)] [c] = .ok (.t xs[d]) [c'] ∧ PotC c' (k + 1) := by
  have hl : 0 < xs.length := List.length_pos_iff.mpr h1
  obtain ⟨d, c', hd, e, P'⟩ := take_at (p := 0) (h := [c]) xs.length hc rfl P hk (by omega) (by omega)
  have hd2 : d < xs.length := by simpa using hd
  refine ⟨d, hd2, c', ?_, P'⟩
  unfold runDef ofB
  simp [sSeq, sRet, sNext, g2, gL, Py.gCons, Py.gNil, gR1, fLen, lenT, gIdx, gVar, Res.bind, Res.sb, SRes.then, look, idxT, atI, ixN, e, hd2, defEnd]
theorem of_at {cf : CF} {k p : Nat} {c : Cell} {h : Hs} (xs : List T) (ho : cf (.g "_law_of") = loc (runDef false 2 2 (ofB cf))) (hc : cf (.g "_law_take") = loc (runDef false 2 5 takeB)) (hp : h[p]? = some c) (P : PotC c k) (hk : k < 2 ^ 39) (h1 : xs ≠ []) (h2 : xs.length < 1073741824) :
    ∃ (d : Nat) (hd : d < xs.length) (c' : Cell), cf (.g "_law_of") [.r p, .t (.lst xs)] h = .ok (.t xs[d]) (h.set p c') ∧ PotC c' (k + 1) := by
  obtain ⟨d, hd, c', e, P'⟩ := of_sp xs hc P hk h1 h2
  exact ⟨d, hd, c', by rw [ho]; exact loc_one rfl hp e, P'⟩
theorem mulOk_r {x y : Int} (h0 : -(2 ^ 64) < y) (h1 : y < 2 ^ 64) : mulOk x y = true := by
  unfold mulOk
  rw [Bool.or_eq_true]
  right
  rw [Bool.and_eq_true, decide_eq_true_eq, decide_eq_true_eq]
  exact ⟨h0, h1⟩
theorem mulOk_l {x y : Int} (h0 : -(2 ^ 64) < x) (h1 : x < 2 ^ 64) : mulOk x y = true := by
  unfold mulOk
  rw [Bool.or_eq_true]
  left
  rw [Bool.and_eq_true, decide_eq_true_eq, decide_eq_true_eq]
  exact ⟨h0, h1⟩
theorem mulOk_b {x : Int} {b : Bool} : mulOk x (if b = true then 1 else 0) = true := by
  cases b <;> exact mulOk_r (by decide) (by decide)
theorem powOkB {x j : Int} (h0 : 0 ≤ x) (h1 : x < 2 ^ 250) (j0 : 0 ≤ j) (j1 : j ≤ 1000) : powOk x j = true := by
  have hb : Builtin.Int.intBits x ≤ 1000 := by
    unfold Builtin.Int.intBits
    split
    · decide
    · rename_i hx
      have hx : x ≠ 0 := by simpa using hx
      have h2 : x.natAbs.log2 < 1000 := (Nat.log2_lt (by omega)).mpr (by omega)
      omega
  unfold powOk
  rw [Bool.and_eq_true, decide_eq_true_eq, decide_eq_true_eq]
  refine ⟨j0, Int.le_trans (Int.mul_le_mul (Int.ofNat_le.mpr hb) j1 j0 (by decide)) (by decide)⟩
/-- (10 ** 60) ** 5 -/
@[irreducible] def BIG : Int := (10 ^ (60 : Int).toNat) ^ (5 : Int).toNat
theorem big_pos : 0 < BIG := by
  unfold BIG
  exact Int.pow_pos (Int.pow_pos (by decide))
theorem big_ok (env : Ev) (h : Hs) : g2 (gBin false .Pow) (g2 (gBin false .Pow) (gC (.int 10)) (gC (.int 60))) (gC (.int 5)) env h = .ok (.t (.int BIG)) h := by
  have p1 : powOk 10 60 = true := powOkB (by decide) (by decide) (by decide) (by decide)
  have p2 : powOk (10 ^ (60 : Int).toNat) 5 = true := powOkB (Int.le_of_lt (Int.pow_pos (by decide))) (by decide) (by decide) (by decide)
  have e1 : binOpT .Pow (.int 10) (.int 60) = some (.int (10 ^ (60 : Int).toNat)) := by
    show (if powOk 10 60 = true then some (T.int (10 ^ (60 : Int).toNat)) else none) = _
    rw [if_pos p1]
  have e2 : binOpT .Pow (.int (10 ^ (60 : Int).toNat)) (.int 5) = some (.int BIG) := by
    show (if powOk (10 ^ (60 : Int).toNat) 5 = true then some (T.int ((10 ^ (60 : Int).toNat) ^ (5 : Int).toNat)) else none) = _
    rw [if_pos p2]
    unfold BIG
    rfl
  unfold g2 gC
  simp only [Res.bind, gBin, look, e1, e2, Py.fresh]
theorem ten_ok (env : Ev) (h : Hs) : g2 (gBin false .Pow) (gC (.int 10)) (gC (.int 18)) env h = .ok (.t (.int 1000000000000000000)) h := by
  have p1 : powOk 10 18 = true := powOkB (by decide) (by decide) (by decide) (by decide)
  have e1 : binOpT .Pow (.int 10) (.int 18) = some (.int 1000000000000000000) := by
    show (if powOk 10 18 = true then some (T.int (10 ^ (18 : Int).toNat)) else none) = _
    rw [if_pos p1]
    rfl
  unfold g2 gC
  simp only [Res.bind, gBin, look, e1, Py.fresh]
theorem bnd (x : Int) : 0 ≤ x % 2305843009213693921 ∧ x % 2305843009213693921 < 2 ^ 62 := by
  have h : (0 : Int) < 2305843009213693921 := by decide
  have h1 := Int.emod_nonneg x (Int.ne_of_gt h)
  have h2 := Int.emod_lt_of_pos x h
  exact ⟨h1, Int.lt_trans h2 (by decide)⟩
theorem pot1 (ns : List Int) (i : Nat) (h : Hs) (hc : i < ns.length) :
    sAsg (aName 2) (gIf (gAsB (g2 (gOrd .Lt) (gVar 1) (gL (gR1 fLen) (Py.gCons (gVar 0) Py.gNil)))) (g2 gIdx (gVar 0) (gVar 1)) (g2 (gBin false .Add) (g2 (gBin false .Mult) (gC (.int 173)) (gVar 1)) (gC (.int 83)))) [some (.t (.scr (ns.map .int))), some (.t (.int i)), none, none, none] h
      = .next [some (.t (.scr (ns.map .int))), some (.t (.int i)), some (.t (.int ns[i])), none, none] h := by
  simp [sAsg, aName, gIf, gAsB, g2, gL, Py.gCons, Py.gNil, gR1, fLen, lenT, gIdx, gVar, Res.bind, Res.sb, look, idxT, ixN, atI, gOrd, asB, ordT, hc]
theorem pot2 (x0 x1 : Option RV) (v : Int) (h : Hs) : ∃ a : Int,
    sAsg (aName 3) (g2 (gBin false .Mult) (g2 (gBin false .Mod) (gL (gR1 fInt) (Py.gCons (gL (gR1 fAbs) (Py.gCons (gVar 2) Py.gNil)) Py.gNil)) (g2 (gBin false .Pow) (g2 (gBin false .Pow) (gC (.int 10)) (gC (.int 60))) (gC (.int 5)))) (gL (gR1 fInt) (Py.gCons (g2 (gOrd .GtE) (gL (gR1 fAbs) (Py.gCons (gVar 2) Py.gNil)) (g2 (gBin false .Pow) (gC (.int 10)) (gC (.int 18)))) Py.gNil))) [x0, x1, some (.t (.int v)), none, none] h
      = .next [x0, x1, some (.t (.int v)), some (.t (.int a)), none] h := by
  generalize hG1 : g2 (gBin false .Pow) (g2 (gBin false .Pow) (gC (.int 10)) (gC (.int 60))) (gC (.int 5)) = G1
  generalize hG2 : g2 (gBin false .Pow) (gC (.int 10)) (gC (.int 18)) = G2
  obtain ⟨N1, bp, q1⟩ : ∃ N : Int, 0 < N ∧ ∀ env h, G1 env h = .ok (.t (.int N)) h := ⟨BIG, big_pos, fun env h => by rw [← hG1]; exact big_ok env h⟩
  obtain ⟨N2, q2⟩ : ∃ N : Int, ∀ env h, G2 env h = .ok (.t (.int N)) h := ⟨_, fun env h => by rw [← hG2]; exact ten_ok env h⟩
  clear hG1 hG2
  have mb : ∀ (x : Int) (q : Prop) [Decidable q], mulOk x (if q then 1 else 0) = true := fun x q _ => by
    split <;> exact mulOk_r (by decide) (by decide)
  simp [q1, q2, sAsg, aName, g2, gL, Py.gCons, Py.gNil, gR1, fInt, fAbs, gVar, Res.bind, Res.sb, look, gOrd, gBin, binOpT, Py.fresh, ordT, bp, mb]
theorem pot3 (x0 x1 x3 : Option RV) (v : Int) (h : Hs) :
    sAsg (aName 4) (g2 (gBin false .Mod) (gL (gR1 fInt) (Py.gCons (gVar 2) Py.gNil)) (gC (.int 2305843009213693951))) [x0, x1, some (.t (.int v)), x3, none] h
      = .next [x0, x1, some (.t (.int v)), x3, some (.t (.int (v % 2305843009213693951)))] h := by
  simp [sAsg, aName, g2, gL, Py.gCons, Py.gNil, gR1, fInt, gVar, gC, Res.bind, Res.sb, look, gBin, binOpT, Py.fresh]
theorem poly_ok (x0 x2 x3 : Option RV) (i c1 c2 c3 : Int) (s : Int) (h : Hs) (m1 : mulOk s c1 = true) (m2 : mulOk c2 i = true) (m3 : mulOk (c2 * i) i = true) :
    g2 (gBin false .Add) (g2 (gBin false .Add) (g2 (gBin false .Mult) (gVar 4) (gC (.int c1))) (g2 (gBin false .Mult) (g2 (gBin false .Mult) (gC (.int c2)) (gVar 1)) (gVar 1))) (gC (.int c3)) [x0, some (.t (.int i)), x2, x3, some (.t (.int s))] h
      = .ok (.t (.int (s * c1 + c2 * i * i + c3))) h := by
  simp [g2, gVar, gC, Res.bind, look, gBin, binOpT, Py.fresh, m1, m2, m3]
theorem pot4a (x0 x2 x3 : Option RV) (i : Nat) (s : Int) (h : Hs) (hi : i ≤ 63) :
    g2 (gBin false .Add) (g2 (gBin false .Add) (g2 (gBin false .Mult) (gVar 4) (gC (.int 70313))) (g2 (gBin false .Mult) (g2 (gBin false .Mult) (gC (.int 7297)) (gVar 1)) (gVar 1))) (gC (.int 151)) [x0, some (.t (.int i)), x2, x3, some (.t (.int s))] h
      = .ok (.t (.int (s * 70313 + 7297 * i * i + 151))) h :=
  poly_ok x0 x2 x3 i 70313 7297 151 s h (mulOk_r (by decide) (by decide)) (mulOk_l (by decide) (by decide)) (mulOk_r (by omega) (by omega))
theorem pot4 (x0 x2 : Option RV) (i : Nat) (a s : Int) (h : Hs) (hi : i ≤ 63) : ∃ b : Int, (0 ≤ b ∧ b < 2 ^ 62) ∧
    sRet (Py.gLst true (Py.gCons (gVar 3) (Py.gCons (g2 (gBin false .Mod) (gL (gR1 fInt) (Py.gCons (g2 (gBin false .Add) (g2 (gBin false .Add) (g2 (gBin false .Mult) (gVar 4) (gC (.int 70313))) (g2 (gBin false .Mult) (g2 (gBin false .Mult) (gC (.int 7297)) (gVar 1)) (gVar 1))) (gC (.int 151))) Py.gNil)) (gC (.int 2305843009213693921))) (Py.gCons (gC (.int 0)) Py.gNil)))) [x0, some (.t (.int i)), x2, some (.t (.int a)), some (.t (.int s))] h
      = .ret (.r h.length) (h ++ [.lst [.int a, .int b, .int 0]]) := by
  refine ⟨(s * 70313 + 7297 * i * i + 151) % 2305843009213693921, bnd _, ?_⟩
  have l3 : 3 ≤ sizeLine := small_line (by decide)
  have e := pot4a x0 x2 (some (.t (.int a))) i s h hi
  generalize g2 (gBin false .Add) (g2 (gBin false .Add) (g2 (gBin false .Mult) (gVar 4) (gC (.int 70313))) (g2 (gBin false .Mult) (g2 (gBin false .Mult) (gC (.int 7297)) (gVar 1)) (gVar 1))) (gC (.int 151)) = G at *
  generalize s * 70313 + 7297 * i * i + 151 = M at *
  simp [sRet, g2, gL, Py.gCons, Py.gNil, gR1, fInt, gVar, gC, Res.bind, Res.sb, look, gBin, binOpT, Py.fresh, Py.gLst, toTs, toT, l3, e]
theorem pot1o (ns : List Int) (i : Nat) (h : Hs) (c1 c2 : Int) (m1 : mulOk c1 i = true) (hc : ¬ i < ns.length) :
    sAsg (aName 2) (gIf (gAsB (g2 (gOrd .Lt) (gVar 1) (gL (gR1 fLen) (Py.gCons (gVar 0) Py.gNil)))) (g2 gIdx (gVar 0) (gVar 1)) (g2 (gBin false .Add) (g2 (gBin false .Mult) (gC (.int c1)) (gVar 1)) (gC (.int c2)))) [some (.t (.scr (ns.map .int))), some (.t (.int i)), none, none, none] h
      = .next [some (.t (.scr (ns.map .int))), some (.t (.int i)), some (.t (.int (c1 * i + c2))), none, none] h := by
  simp [sAsg, aName, gIf, gAsB, g2, gL, Py.gCons, Py.gNil, gR1, fLen, lenT, gIdx, gVar, gC, Res.bind, Res.sb, look, idxT, ixN, atI, gOrd, asB, ordT, hc, gBin, binOpT, Py.fresh, m1]
theorem pot_sp (h : Hs) (ns : List Int) (i : Nat) (hi : i ≤ 63) :
    ∃ a b : Int, (0 ≤ b ∧ b < 2 ^ 62) ∧ runDef true 2 5 potB [.t (.scr (ns.map .int)), .t (.int i)] h = .ok (.r h.length) (h ++ [.lst [.int a, .int b, .int 0]]) := by
  have key : ∃ v : Int, sAsg (aName 2) (gIf (gAsB (g2 (gOrd .Lt) (gVar 1) (gL (gR1 fLen) (Py.gCons (gVar 0) Py.gNil)))) (g2 gIdx (gVar 0) (gVar 1)) (g2 (gBin false .Add) (g2 (gBin false .Mult) (gC (.int 173)) (gVar 1)) (gC (.int 83)))) [some (.t (.scr (ns.map .int))), some (.t (.int i)), none, none, none] h
      = .next [some (.t (.scr (ns.map .int))), some (.t (.int i)), some (.t (.int v)), none, none] h := by
    by_cases hc : i < ns.length
    · exact ⟨_, pot1 ns i h hc⟩
    · exact ⟨_, pot1o ns i h 173 83 (mulOk_l (by decide) (by decide)) hc⟩
  obtain ⟨v, e1⟩ := key
  unfold runDef potB
  obtain ⟨a, e2⟩ := pot2 (some (.t (.scr (ns.map .int)))) (some (.t (.int i))) v h
  obtain ⟨b, hb, e4⟩ := pot4 (some (.t (.scr (ns.map .int)))) (some (.t (.int v))) i a (v % 2305843009213693951) h hi
  refine ⟨a, b, hb, ?_⟩
  show (match sSeq _ _ [some (.t (.scr (ns.map .int))), some (.t (.int i)), none, none, none] h with
    | .ret v h' => defEnd true h.length v h'
    | .next _ h' => defEnd true h.length (.t .non) h'
    | .err c t _ h' => .err c t (h'.take h.length)
    | _ => .stuck) = _
  unfold sSeq
  rw [e1]
  simp only [SRes.then]
  rw [e2]
  simp only [SRes.then]
  rw [pot3]
  simp only [SRes.then]
  rw [e4]
  rfl
theorem pot_at {cf : CF} {h : Hs} (ns : List Int) (i : Nat) (hc : cf (.g "_law_pot") = loc (runDef true 2 5 potB)) (hi : i ≤ 63) :
    ∃ c : Cell, PotC c 0 ∧ cf (.g "_law_pot") [.t (.scr (ns.map .int)), .t (.int i)] h = .ok (.r h.length) (h ++ [c]) := by
  obtain ⟨a, b, hb, e⟩ := pot_sp [] ns i hi
  exact ⟨_, ⟨a, b, 0, rfl, hb, Int.le_refl _, Int.le_refl _⟩, by rw [hc]; exact loc_noneC rfl e (fun _ z => by cases z)⟩
theorem rgB_in {m : Nat} (h : m ≤ 100000) : rgB 0 m = true := by
  have h0 : inRg 0 = true := by decide
  have h1 : inRg m = true := by
    unfold inRg
    rw [Bool.and_eq_true, decide_eq_true_eq, decide_eq_true_eq]
    omega
  unfold rgB
  rw [h0, h1, Bool.true_and, Bool.true_and, decide_eq_true_eq]
  omega
theorem cells_sp (h : Hs) (ns : List Int) (lim : Nat) (hl : lim ≤ 63) :
    runDef false 2 2 cellsB [.t (.scr (ns.map .int)), .t (.int lim)] h = .ok (.t (.lst ((List.range (max 1 (min lim ns.length))).map fun (i : Nat) => .int i))) h := by
  have main : ∀ m : Nat, m ≤ 63 → Py.fresh false (.lst (rngT 0 m)) h = .ok (.t (.lst ((List.range m).map fun (i : Nat) => .int i))) h := fun m hm => by
    have e : rngT 0 m = (List.range m).map fun (i : Nat) => .int i := by
      unfold rngT
      simp
    rw [e]
    unfold Py.fresh
    dsimp only
    rw [if_pos (by rw [List.length_map, List.length_range]; exact small_line (by omega))]
    rfl
  have run : ∀ m : Nat, m ≤ 63 → (gL (gR2 fMax) (Py.gCons (gC (.int 1)) (Py.gCons (gL (gR2 fMin) (Py.gCons (gVar 1) (Py.gCons (gL (gR1 fLen) (Py.gCons (gVar 0) Py.gNil)) Py.gNil))) Py.gNil))) [some (.t (.scr (ns.map .int))), some (.t (.int lim))] h = .ok (.t (.int m)) h →
      runDef false 2 2 cellsB [.t (.scr (ns.map .int)), .t (.int lim)] h = .ok (.t (.lst ((List.range m).map fun (i : Nat) => .int i))) h := fun m hm e => by
    unfold runDef cellsB
    generalize (gL (gR2 fMax) (Py.gCons (gC (.int 1)) (Py.gCons (gL (gR2 fMin) (Py.gCons (gVar 1) (Py.gCons (gL (gR1 fLen) (Py.gCons (gVar 0) Py.gNil)) Py.gNil))) Py.gNil))) = G at *
    simp [sSeq, sRet, gRg1, Res.bind, Res.sb, SRes.then, defEnd, e, rgB_in (m := m) (by omega), main m hm]
  refine run _ (by omega) ?_
  simp [gL, Py.gCons, Py.gNil, gR1, gR2, fMax, fMin, fLen, lenT, gVar, gC, Res.bind, look]
  have : (if (1 : Int) < (if (ns.length : Int) < lim then (ns.length : Int) else lim) then (if (ns.length : Int) < lim then (ns.length : Int) else lim) else 1) = max 1 (min (lim : Int) ns.length) := by
    split <;> split <;> omega
  first | exact this | (rw [this]; omega) | omega
theorem cells_at {cf : CF} {h : Hs} (ns : List Int) (lim : Nat) (hc : cf (.g "_law_cells") = loc (runDef false 2 2 cellsB)) (hl : lim ≤ 63) :
    cf (.g "_law_cells") [.t (.scr (ns.map .int)), .t (.int lim)] h = .ok (.t (.lst ((List.range (max 1 (min lim ns.length))).map fun (i : Nat) => .int i))) h := by
  rw [hc]
  exact loc_none rfl (cells_sp [] ns lim hl)
end Py

set_option Elab.async false
set_option linter.all false
set_option maxRecDepth 100000
set_option maxHeartbeats 4000000
namespace Q01
open PySem PySem.Spec PyProof.Rows L2 Lw LamX Py
def top (i : Nat) : Stmt := PySem.Challenge.pw_landingwires_k01_standings_by_their_mark.main.body.getD i (.Pass ⟨0, 0, 0, 0⟩)
def B : Tbl := { cls := ["Standing"], errs := ["WireError", "BadMarks", "BadWires", "OtherWires"], isa := [(.ty "NoneType", .own "BadMarks", false), (.ty "NoneType", .own "BadWires", false), (.ty "NoneType", .own "Standing", false), (.ty "NoneType", .ty "bool", false), (.ty "NoneType", .ty "int", false), (.ty "NoneType", .ty "str", false), (.ty "NoneType", .ty "tuple", false), (.ty "bool", .own "BadMarks", false), (.ty "bool", .own "BadWires", false), (.ty "bool", .own "Standing", false), (.ty "bool", .ty "bool", true), (.ty "bool", .ty "int", true), (.ty "bool", .ty "str", false), (.ty "bool", .ty "tuple", false), (.ty "int", .own "BadMarks", false), (.ty "int", .own "BadWires", false), (.ty "int", .own "Standing", false), (.ty "int", .ty "bool", false), (.ty "int", .ty "int", true), (.ty "int", .ty "str", false), (.ty "int", .ty "tuple", false), (.ty "str", .own "BadMarks", false), (.ty "str", .own "BadWires", false), (.ty "str", .own "Standing", false), (.ty "str", .ty "bool", false), (.ty "str", .ty "int", false), (.ty "str", .ty "str", true), (.ty "str", .ty "tuple", false), (.ty "tuple", .own "BadMarks", false), (.ty "tuple", .own "BadWires", false), (.ty "tuple", .own "Standing", false), (.ty "tuple", .ty "bool", false), (.ty "tuple", .ty "int", false), (.ty "tuple", .ty "str", false), (.ty "tuple", .ty "tuple", true), (.ty "list", .own "BadMarks", false), (.ty "list", .own "BadWires", false), (.ty "list", .own "Standing", false), (.ty "list", .ty "bool", false), (.ty "list", .ty "int", false), (.ty "list", .ty "str", false), (.ty "list", .ty "tuple", false), (.ty "dict", .own "BadMarks", false), (.ty "dict", .own "BadWires", false), (.ty "dict", .own "Standing", false), (.ty "dict", .ty "bool", false), (.ty "dict", .ty "int", false), (.ty "dict", .ty "str", false), (.ty "dict", .ty "tuple", false), (.own "Standing", .own "BadMarks", false), (.own "Standing", .own "BadWires", false), (.own "Standing", .own "Standing", true), (.own "Standing", .ty "bool", false), (.own "Standing", .ty "int", false), (.own "Standing", .ty "str", false), (.own "Standing", .ty "tuple", false), (.own "WireError", .own "BadMarks", false), (.own "WireError", .own "BadWires", false), (.own "WireError", .own "Standing", false), (.own "WireError", .ty "bool", false), (.own "WireError", .ty "int", false), (.own "WireError", .ty "str", false), (.own "WireError", .ty "tuple", false), (.own "BadMarks", .own "BadMarks", true), (.own "BadMarks", .own "BadWires", false), (.own "BadMarks", .own "Standing", false), (.own "BadMarks", .ty "bool", false), (.own "BadMarks", .ty "int", false), (.own "BadMarks", .ty "str", false), (.own "BadMarks", .ty "tuple", false), (.own "BadWires", .own "BadMarks", false), (.own "BadWires", .own "BadWires", true), (.own "BadWires", .own "Standing", false), (.own "BadWires", .ty "bool", false), (.own "BadWires", .ty "int", false), (.own "BadWires", .ty "str", false), (.own "BadWires", .ty "tuple", false), (.own "OtherWires", .own "BadMarks", false), (.own "OtherWires", .own "BadWires", false), (.own "OtherWires", .own "Standing", false), (.own "OtherWires", .ty "bool", false), (.own "OtherWires", .ty "int", false), (.own "OtherWires", .ty "str", false), (.own "OtherWires", .ty "tuple", false)], exm := [("WireError", "WireError", true), ("BadMarks", "WireError", true), ("BadWires", "WireError", true), ("OtherWires", "WireError", true)], fld := [("Standing", "_marks")], consts := [("LEAST_WIRES", .int 1), ("MOST_WIRES", .int 4)], defs := ["is_int", "are_marks", "check_wires", "merged", "_law_pot", "_law_take", "_law_of", "_law_cells", "_law_odd", "_law_bent_value", "_law_all_marks", "_law_drawn_marks", "_law_are_marks", "_law_is_standing_right", "_law_is_taken_right", "_law_is_bare_right", "_law_right", "law"], mets := [("Standing", "__contains__"), ("Standing", "__or__"), ("Standing", "__and__"), ("Standing", "__eq__")], props := [("Standing", "marks"), ("Standing", "wires"), ("Standing", "is_short")], stats := [("Standing", "bare")], nfs := [("Standing", .ty "NoneType"), ("Standing", .ty "bool"), ("Standing", .ty "int"), ("Standing", .ty "str"), ("Standing", .ty "tuple"), ("Standing", .ty "list"), ("Standing", .ty "dict"), ("Standing", .own "Standing")] }
def frees : List Str := ["abs", "len", "min", "max", "all", "repr", "sorted", "isinstance", "int", "tuple", "list", "set", "str", "bool", "range", "enumerate", "zip"]
abbrev sTold : Stmt := top 20
abbrev nTold : List Str := ["_law_look", "_law_caught", "_law_back", "error"]
abbrev s_Standing___init__ : Stmt := inClass (top 11) 0
abbrev n_Standing___init__ : List Str := ["self", "marks"]
theorem sc_Standing___init__ : FnScope n_Standing___init__ ["self", "marks"] (defScope s_Standing___init__) := ⟨rfl, rfl, rfl, by decide +kernel, rfl, by decide +kernel, by decide +kernel⟩
def b_Standing___init__ (cf : CF) : SM := (sSeq (sIf (bNot (gTru (gL (cf (.g "are_marks")) (gCons (gVar 1) gNil)))) (sSeq (sRaise "BadMarks" (gCons (gVar 1) gNil)) sNext) sNext) (sSeq (sPut B "_marks" (gVar 0) (gVar 1)) sNext))
def r_Standing___init__ (cf : CF) : List RV → M RV := runDef false 2 2 (b_Standing___init__ cf)
theorem d_Standing___init__ (E0 : En) {f : Addr} {fd : FuncData} (F : FunD E0.K "__init__" "Standing.__init__" (defArgs s_Standing___init__) (defBody s_Standing___init__) (defScope s_Standing___init__) [] [] f fd) {cf : CF} {k : Nat} (D : DefsE E0 B k cf) (A0 : All E0 B frees) : FI E0.P E0.w E0.K E0.mg E0.base E0.tb (k + 5) f (r_Standing___init__ cf) :=
  def_ok (tb := E0.tb) F sc_Standing___init__ (F.bindsN fun _ _ _ _ _ _ us hl => match us, hl with | [_, _], _ => rfl) fun cdv A outer s H E hg hr =>
    have C : Ctx (cxOf (L2.CX E0.P E0.w) E0.P E0.w E0.K E0.mg E0.base n_Standing___init__ "Standing.__init__" (defScope s_Standing___init__) f cdv A outer s H E) E0.tb B frees E0.er k cf := A0.ctx D hg (hr.mono (by omega))
    have tk : Takes (cxOf (L2.CX E0.P E0.w) E0.P E0.w E0.K E0.mg E0.base n_Standing___init__ "Standing.__init__" (defScope s_Standing___init__) f cdv A outer s H E) (fun c d _ H => E c d H) := takes_of rfl rfl rfl rfl
    (pss_cons_ (ps_if_ (pt_not_ (xtr (xg C tk (by decide +kernel) (xa (xv 1 (by first | exact Or.inl rfl | exact Or.inr (Or.inl rfl) | exact Or.inr (Or.inr rfl))) pa_nil_)))) (pss_cons_ (xraise C tk (by decide +kernel) (xa (xv 1 (by first | exact Or.inl rfl | exact Or.inr (Or.inl rfl) | exact Or.inr (Or.inr rfl))) pa_nil_)) pss_nil_) pss_nil_) (pss_cons_ (xput C (xv 0 (by first | exact Or.inl rfl | exact Or.inr (Or.inl rfl) | exact Or.inr (Or.inr rfl))) (xv 1 (by first | exact Or.inl rfl | exact Or.inr (Or.inl rfl) | exact Or.inr (Or.inr rfl)))) pss_nil_))
abbrev s_Standing_marks : Stmt := inClass (top 11) 1
abbrev n_Standing_marks : List Str := ["self"]
theorem sc_Standing_marks : FnScope n_Standing_marks ["self"] (defScope s_Standing_marks) := ⟨rfl, rfl, rfl, by decide +kernel, rfl, by decide +kernel, by decide +kernel⟩
def b_Standing_marks (cf : CF) : SM := (sSeq (sRet (g1 (gAttr B cf "_marks") (gVar 0))) sNext)
def r_Standing_marks (cf : CF) : List RV → M RV := runDef false 1 1 (b_Standing_marks cf)
theorem d_Standing_marks (E0 : En) {f : Addr} {fd : FuncData} (F : FunD E0.K "marks" "Standing.marks" (defArgs s_Standing_marks) (defBody s_Standing_marks) (defScope s_Standing_marks) [] [] f fd) {cf : CF} {k : Nat} (D : DefsE E0 B k cf) (A0 : All E0 B frees) : FI E0.P E0.w E0.K E0.mg E0.base E0.tb (k + 5) f (r_Standing_marks cf) :=
  def_ok (tb := E0.tb) F sc_Standing_marks (F.bindsN fun _ _ _ _ _ _ us hl => match us, hl with | [_], _ => rfl) fun cdv A outer s H E hg hr =>
    have C : Ctx (cxOf (L2.CX E0.P E0.w) E0.P E0.w E0.K E0.mg E0.base n_Standing_marks "Standing.marks" (defScope s_Standing_marks) f cdv A outer s H E) E0.tb B frees E0.er k cf := A0.ctx D hg (hr.mono (by omega))
    have tk : Takes (cxOf (L2.CX E0.P E0.w) E0.P E0.w E0.K E0.mg E0.base n_Standing_marks "Standing.marks" (defScope s_Standing_marks) f cdv A outer s H E) (fun c d _ H => E c d H) := takes_of rfl rfl rfl rfl
    (pss_cons_ (ps_ret_ (xf C (xv 0 (by first | exact Or.inl rfl | exact Or.inr (Or.inl rfl) | exact Or.inr (Or.inr rfl))))) pss_nil_)
abbrev s_Standing_wires : Stmt := inClass (top 11) 2
abbrev n_Standing_wires : List Str := ["self"]
theorem sc_Standing_wires : FnScope n_Standing_wires ["self"] (defScope s_Standing_wires) := ⟨rfl, rfl, rfl, by decide +kernel, rfl, by decide +kernel, by decide +kernel⟩
def b_Standing_wires (cf : CF) : SM := (sSeq (sRet (g2 (gBin false .Sub) (gL (gR1 fLen) (gCons (g1 (gAttr B cf "_marks") (gVar 0)) gNil)) (gC (.int 2)))) sNext)
def r_Standing_wires (cf : CF) : List RV → M RV := runDef false 1 1 (b_Standing_wires cf)
theorem d_Standing_wires (E0 : En) {f : Addr} {fd : FuncData} (F : FunD E0.K "wires" "Standing.wires" (defArgs s_Standing_wires) (defBody s_Standing_wires) (defScope s_Standing_wires) [] [] f fd) {cf : CF} {k : Nat} (D : DefsE E0 B k cf) (A0 : All E0 B frees) : FI E0.P E0.w E0.K E0.mg E0.base E0.tb (k + 5) f (r_Standing_wires cf) :=
  def_ok (tb := E0.tb) F sc_Standing_wires (F.bindsN fun _ _ _ _ _ _ us hl => match us, hl with | [_], _ => rfl) fun cdv A outer s H E hg hr =>
    have C : Ctx (cxOf (L2.CX E0.P E0.w) E0.P E0.w E0.K E0.mg E0.base n_Standing_wires "Standing.wires" (defScope s_Standing_wires) f cdv A outer s H E) E0.tb B frees E0.er k cf := A0.ctx D hg (hr.mono (by omega))
    have tk : Takes (cxOf (L2.CX E0.P E0.w) E0.P E0.w E0.K E0.mg E0.base n_Standing_wires "Standing.wires" (defScope s_Standing_wires) f cdv A outer s H E) (fun c d _ H => E c d H) := takes_of rfl rfl rfl rfl
    (pss_cons_ (ps_ret_ (xo false .Sub (xb C run_len (by decide +kernel) rfl (xa (xf C (xv 0 (by first | exact Or.inl rfl | exact Or.inr (Or.inl rfl) | exact Or.inr (Or.inr rfl)))) pa_nil_)) xint)) pss_nil_)
abbrev s_Standing_is_short : Stmt := inClass (top 11) 3
abbrev n_Standing_is_short : List Str := ["self"]
theorem sc_Standing_is_short : FnScope n_Standing_is_short ["self"] (defScope s_Standing_is_short) := ⟨rfl, rfl, rfl, by decide +kernel, rfl, by decide +kernel, by decide +kernel⟩
def b_Standing_is_short (cf : CF) : SM := (sSeq (sRet (g2 (bySelf (ownEq B cf) (gEq false)) (g2 gIdx (g1 (gAttr B cf "_marks") (gVar 0)) (g1 gNeg (gC (.int 2)))) (g2 gIdx (g1 (gAttr B cf "_marks") (gVar 0)) (g1 gNeg (gC (.int 1)))))) sNext)
def r_Standing_is_short (cf : CF) : List RV → M RV := runDef false 1 1 (b_Standing_is_short cf)
theorem d_Standing_is_short (E0 : En) {f : Addr} {fd : FuncData} (F : FunD E0.K "is_short" "Standing.is_short" (defArgs s_Standing_is_short) (defBody s_Standing_is_short) (defScope s_Standing_is_short) [] [] f fd) {cf : CF} {k : Nat} (D : DefsE E0 B k cf) (A0 : All E0 B frees) : FI E0.P E0.w E0.K E0.mg E0.base E0.tb (k + 5) f (r_Standing_is_short cf) :=
  def_ok (tb := E0.tb) F sc_Standing_is_short (F.bindsN fun _ _ _ _ _ _ us hl => match us, hl with | [_], _ => rfl) fun cdv A outer s H E hg hr =>
    have C : Ctx (cxOf (L2.CX E0.P E0.w) E0.P E0.w E0.K E0.mg E0.base n_Standing_is_short "Standing.is_short" (defScope s_Standing_is_short) f cdv A outer s H E) E0.tb B frees E0.er k cf := A0.ctx D hg (hr.mono (by omega))
    have tk : Takes (cxOf (L2.CX E0.P E0.w) E0.P E0.w E0.K E0.mg E0.base n_Standing_is_short "Standing.is_short" (defScope s_Standing_is_short) f cdv A outer s H E) (fun c d _ H => E c d H) := takes_of rfl rfl rfl rfl
    (pss_cons_ (ps_ret_ (pe_cmp_ (reqs C tk) (xi C (xf C (xv 0 (by first | exact Or.inl rfl | exact Or.inr (Or.inl rfl) | exact Or.inr (Or.inr rfl)))) (xneg xint)) (xi C (xf C (xv 0 (by first | exact Or.inl rfl | exact Or.inr (Or.inl rfl) | exact Or.inr (Or.inr rfl)))) (xneg xint)) (by first | rfl | exact nomark _ | with_unfolding_all rfl))) pss_nil_)
abbrev s_Standing_bare : Stmt := inClass (top 11) 4
abbrev n_Standing_bare : List Str := ["wires"]
theorem sc_Standing_bare : FnScope n_Standing_bare ["wires"] (defScope s_Standing_bare) := ⟨rfl, rfl, rfl, by decide +kernel, rfl, by decide +kernel, by decide +kernel⟩
def b_Standing_bare (cf : CF) : SM := (sSeq (sIf (bOr (bNot (gTru (gL (cf (.g "is_int")) (gCons (gVar 0) gNil)))) (bNot (gAsB (gCh (gOrd .LtE) (gOrd .LtE) (gC (.int 1)) (gVar 0) (gC (.int 4)))))) (sSeq (sRaise "BadWires" (gCons (gVar 0) gNil)) sNext) sNext) (sSeq (sRet (gL (gNew cf "Standing" false) (gCons (gRg1 false .tup (g2 (gBin false .Add) (gVar 0) (gC (.int 2)))) gNil))) sNext))
def r_Standing_bare (cf : CF) : List RV → M RV := runDef false 1 1 (b_Standing_bare cf)
theorem d_Standing_bare (E0 : En) {f : Addr} {fd : FuncData} (F : FunD E0.K "bare" "Standing.bare" (defArgs s_Standing_bare) (defBody s_Standing_bare) (defScope s_Standing_bare) [] [] f fd) {cf : CF} {k : Nat} (D : DefsE E0 B k cf) (A0 : All E0 B frees) : FI E0.P E0.w E0.K E0.mg E0.base E0.tb (k + 5) f (r_Standing_bare cf) :=
  def_ok (tb := E0.tb) F sc_Standing_bare (F.bindsN fun _ _ _ _ _ _ us hl => match us, hl with | [_], _ => rfl) fun cdv A outer s H E hg hr =>
    have C : Ctx (cxOf (L2.CX E0.P E0.w) E0.P E0.w E0.K E0.mg E0.base n_Standing_bare "Standing.bare" (defScope s_Standing_bare) f cdv A outer s H E) E0.tb B frees E0.er k cf := A0.ctx D hg (hr.mono (by omega))
    have tk : Takes (cxOf (L2.CX E0.P E0.w) E0.P E0.w E0.K E0.mg E0.base n_Standing_bare "Standing.bare" (defScope s_Standing_bare) f cdv A outer s H E) (fun c d _ H => E c d H) := takes_of rfl rfl rfl rfl
    (pss_cons_ (ps_if_ (PW.pt (pw_or_ (pt_not_ (xtr (xg C tk (by decide +kernel) (xa (xv 0 (by first | exact Or.inl rfl | exact Or.inr (Or.inl rfl) | exact Or.inr (Or.inr rfl))) pa_nil_)))) (pw_or1_ (pt_not_ (xtch .LtE .LtE (xcst C (List.mem_of_getElem? (i := 0) rfl)) (xv 0 (by first | exact Or.inl rfl | exact Or.inr (Or.inl rfl) | exact Or.inr (Or.inr rfl))) (xcst C (List.mem_of_getElem? (i := 1) rfl))))))) (pss_cons_ (xraise C tk (by decide +kernel) (xa (xv 0 (by first | exact Or.inl rfl | exact Or.inr (Or.inl rfl) | exact Or.inr (Or.inr rfl))) pa_nil_)) pss_nil_) pss_nil_) (pss_cons_ (ps_ret_ (xn C tk false (by decide +kernel) (xa (xtR1 (hp := false) C (by decide +kernel) (by decide +kernel) (xo false .Add (xv 0 (by first | exact Or.inl rfl | exact Or.inr (Or.inl rfl) | exact Or.inr (Or.inr rfl))) xint)) pa_nil_))) pss_nil_))
abbrev s_Standing___contains__ : Stmt := inClass (top 11) 6
abbrev n_Standing___contains__ : List Str := ["self", "value", "thing"]
theorem sc_Standing___contains__ : FnScope n_Standing___contains__ ["self", "value"] (defScope s_Standing___contains__) := ⟨rfl, rfl, rfl, by decide +kernel, rfl, by decide +kernel, by decide +kernel⟩
def b_Standing___contains__ (cf : CF) : SM := (sSeq (sIf (bOr (bNot (gTru (gL (gR2 (fIs B)) (gCons (gVar 1) (gCons (gC (.cl (.ty "tuple"))) gNil))))) (gAsB (g2 (bySelf (ownNe B cf) (gEq true)) (gL (gR1 fLen) (gCons (gVar 1) gNil)) (gC (.int 2))))) (sSeq (sRet (gC (.bl false))) sNext) sNext) (sSeq (sIf (bNot (gTru (gL (gR1 fAll) (gCons (gLc false (iSeq (gVar 1)) (aName 2) cYes (vAnd (gL (cf (.g "is_int")) (gCons (gVar 2) gNil)) (gCh (gOrd .LtE) (gOrd .Lt) (gC (.int 0)) (gVar 2) (gL (gR1 fLen) (gCons (g1 (gAttr B cf "_marks") (gVar 0)) gNil)))) [2]) gNil)))) (sSeq (sRet (gC (.bl false))) sNext) sNext) (sSeq (sRet (g2 (bySelf (ownEq B cf) (gEq false)) (g2 gIdx (g1 (gAttr B cf "_marks") (gVar 0)) (g2 gIdx (gVar 1) (gC (.int 0)))) (g2 gIdx (g1 (gAttr B cf "_marks") (gVar 0)) (g2 gIdx (gVar 1) (gC (.int 1)))))) sNext)))
def r_Standing___contains__ (cf : CF) : List RV → M RV := runDef false 2 3 (b_Standing___contains__ cf)
theorem d_Standing___contains__ (E0 : En) {f : Addr} {fd : FuncData} (F : FunD E0.K "__contains__" "Standing.__contains__" (defArgs s_Standing___contains__) (defBody s_Standing___contains__) (defScope s_Standing___contains__) [] [] f fd) {cf : CF} {k : Nat} (D : DefsE E0 B k cf) (A0 : All E0 B frees) : FI E0.P E0.w E0.K E0.mg E0.base E0.tb (k + 5) f (r_Standing___contains__ cf) :=
  def_ok (tb := E0.tb) F sc_Standing___contains__ (F.bindsN fun _ _ _ _ _ _ us hl => match us, hl with | [_, _], _ => rfl) fun cdv A outer s H E hg hr =>
    have C : Ctx (cxOf (L2.CX E0.P E0.w) E0.P E0.w E0.K E0.mg E0.base n_Standing___contains__ "Standing.__contains__" (defScope s_Standing___contains__) f cdv A outer s H E) E0.tb B frees E0.er k cf := A0.ctx D hg (hr.mono (by omega))
    have tk : Takes (cxOf (L2.CX E0.P E0.w) E0.P E0.w E0.K E0.mg E0.base n_Standing___contains__ "Standing.__contains__" (defScope s_Standing___contains__) f cdv A outer s H E) (fun c d _ H => E c d H) := takes_of rfl rfl rfl rfl
    (pss_cons_ (ps_if_ (PW.pt (pw_or_ (pt_not_ (xtr (xb C (run_isa C.fa) (by decide +kernel) rfl (xa (xv 1 (by first | exact Or.inl rfl | exact Or.inr (Or.inl rfl) | exact Or.inr (Or.inr rfl))) (xa (xclT C (by decide +kernel) rfl) pa_nil_))))) (pw_or1_ (pt_cmp_ (rnes C tk) (xb C run_len (by decide +kernel) rfl (xa (xv 1 (by first | exact Or.inl rfl | exact Or.inr (Or.inl rfl) | exact Or.inr (Or.inr rfl))) pa_nil_)) xint (by first | rfl | exact nomark _ | with_unfolding_all rfl))))) (pss_cons_ (ps_ret_ xbl) pss_nil_) pss_nil_) (pss_cons_ (ps_if_ (pt_not_ (xtr (xb C (run_all rfl) (by decide +kernel) rfl (xa (xlc false [("thing", 2)] (pi_seq_ (xv 1 (by first | exact Or.inl rfl | exact Or.inr (Or.inl rfl) | exact Or.inr (Or.inr rfl)))) (blkOk_by (N := n_Standing___contains__) (sc := defScope s_Standing___contains__) (by decide +kernel)) (fun _ _ _ _ _ => (xpn 2 (by first | exact Or.inl rfl | exact Or.inr rfl) (hd := sc_Standing___contains__.nd))) (fun _ _ _ _ _ => (pts_nil_ rfl rfl)) (fun _ _ _ _ _ => (pe_and_ (xg (C.to) takes_false (by decide +kernel) (xa (xv 2 (by first | exact Or.inl rfl | exact Or.inr (Or.inl rfl) | exact Or.inr (Or.inr rfl))) pa_nil_)) (pe_one_ (xch .LtE .Lt xint (xv 2 (by first | exact Or.inl rfl | exact Or.inr (Or.inl rfl) | exact Or.inr (Or.inr rfl))) (xb (C.to) run_len (by decide +kernel) rfl (xa (xf (C.to) (xv 0 (by first | exact Or.inl rfl | exact Or.inr (Or.inl rfl) | exact Or.inr (Or.inr rfl)))) pa_nil_)))))) (hd := sc_Standing___contains__.nd)) pa_nil_)))) (pss_cons_ (ps_ret_ xbl) pss_nil_) pss_nil_) (pss_cons_ (ps_ret_ (pe_cmp_ (reqs C tk) (xi C (xf C (xv 0 (by first | exact Or.inl rfl | exact Or.inr (Or.inl rfl) | exact Or.inr (Or.inr rfl)))) (xi C (xv 1 (by first | exact Or.inl rfl | exact Or.inr (Or.inl rfl) | exact Or.inr (Or.inr rfl))) xint)) (xi C (xf C (xv 0 (by first | exact Or.inl rfl | exact Or.inr (Or.inl rfl) | exact Or.inr (Or.inr rfl)))) (xi C (xv 1 (by first | exact Or.inl rfl | exact Or.inr (Or.inl rfl) | exact Or.inr (Or.inr rfl))) xint)) (by first | rfl | exact nomark _ | with_unfolding_all rfl))) pss_nil_)))
abbrev s_Standing___or__ : Stmt := inClass (top 11) 7
abbrev n_Standing___or__ : List Str := ["self", "other", "together", "at", "mark"]
theorem sc_Standing___or__ : FnScope n_Standing___or__ ["self", "other"] (defScope s_Standing___or__) := ⟨rfl, rfl, rfl, by decide +kernel, rfl, by decide +kernel, by decide +kernel⟩
def b_Standing___or__ (cf : CF) : SM := (sSeq (sEx (gL (cf (.g "check_wires")) (gCons (gVar 0) (gCons (gVar 1) gNil)))) (sSeq (sAsg (aName 2) (g1 (gAttr B cf "_marks") (gVar 0))) (sSeq (sFor (iEnumA (gCons (g1 (gAttr B cf "marks") (gVar 1)) gNil)) (aTup 2 (aCons (aName 3) (aCons (aName 4) aNil))) (sSeq (sAsg (aName 2) (gL (cf (.g "merged")) (gCons (gVar 2) (gCons (gVar 3) (gCons (gVar 4) gNil))))) sNext)) (sSeq (sRet (gL (gNew cf "Standing" false) (gCons (gVar 2) gNil))) sNext))))
def r_Standing___or__ (cf : CF) : List RV → M RV := runDef false 2 5 (b_Standing___or__ cf)
theorem d_Standing___or__ (E0 : En) {f : Addr} {fd : FuncData} (F : FunD E0.K "__or__" "Standing.__or__" (defArgs s_Standing___or__) (defBody s_Standing___or__) (defScope s_Standing___or__) [] [] f fd) {cf : CF} {k : Nat} (D : DefsE E0 B k cf) (A0 : All E0 B frees) : FI E0.P E0.w E0.K E0.mg E0.base E0.tb (k + 5) f (r_Standing___or__ cf) :=
  def_ok (tb := E0.tb) F sc_Standing___or__ (F.bindsN fun _ _ _ _ _ _ us hl => match us, hl with | [_, _], _ => rfl) fun cdv A outer s H E hg hr =>
    have C : Ctx (cxOf (L2.CX E0.P E0.w) E0.P E0.w E0.K E0.mg E0.base n_Standing___or__ "Standing.__or__" (defScope s_Standing___or__) f cdv A outer s H E) E0.tb B frees E0.er k cf := A0.ctx D hg (hr.mono (by omega))
    have tk : Takes (cxOf (L2.CX E0.P E0.w) E0.P E0.w E0.K E0.mg E0.base n_Standing___or__ "Standing.__or__" (defScope s_Standing___or__) f cdv A outer s H E) (fun c d _ H => E c d H) := takes_of rfl rfl rfl rfl
    (pss_cons_ (xex (xg C tk (by decide +kernel) (xa (xv 0 (by first | exact Or.inl rfl | exact Or.inr (Or.inl rfl) | exact Or.inr (Or.inr rfl))) (xa (xv 1 (by first | exact Or.inl rfl | exact Or.inr (Or.inl rfl) | exact Or.inr (Or.inr rfl))) pa_nil_)))) (pss_cons_ (xset 2 (by first | exact Or.inl rfl | exact Or.inr rfl) (xf C (xv 0 (by first | exact Or.inl rfl | exact Or.inr (Or.inl rfl) | exact Or.inr (Or.inr rfl)))) (hd := sc_Standing___or__.nd)) (pss_cons_ (xfor (own := [3, 4]) (passes_of rfl) (xen C (by decide +kernel) (xa (xf C (xv 1 (by first | exact Or.inl rfl | exact Or.inr (Or.inl rfl) | exact Or.inr (Or.inr rfl)))) pa_nil_)) (xpt 2 (pgs_cons_ (xpn 3 (by first | exact Or.inl rfl | exact Or.inr rfl) (hd := sc_Standing___or__.nd)) (pgs_cons_ (xpn 4 (by first | exact Or.inl rfl | exact Or.inr rfl) (hd := sc_Standing___or__.nd)) pgs_nil_ rfl) rfl)) (pss_cons_ (xset 2 (by first | exact Or.inl rfl | exact Or.inr rfl) (xg C tk (by decide +kernel) (xa (xv 2 (by first | exact Or.inl rfl | exact Or.inr (Or.inl rfl) | exact Or.inr (Or.inr rfl))) (xa (xv 3 (by first | exact Or.inl rfl | exact Or.inr (Or.inl rfl) | exact Or.inr (Or.inr rfl))) (xa (xv 4 (by first | exact Or.inl rfl | exact Or.inr (Or.inl rfl) | exact Or.inr (Or.inr rfl))) pa_nil_)))) (hd := sc_Standing___or__.nd)) pss_nil_)) (pss_cons_ (ps_ret_ (xn C tk false (by decide +kernel) (xa (xv 2 (by first | exact Or.inl rfl | exact Or.inr (Or.inl rfl) | exact Or.inr (Or.inr rfl))) pa_nil_))) pss_nil_))))
abbrev s_Standing___and__ : Stmt := inClass (top 11) 8
abbrev n_Standing___and__ : List Str := ["self", "other", "pairs", "pair"]
theorem sc_Standing___and__ : FnScope n_Standing___and__ ["self", "other"] (defScope s_Standing___and__) := ⟨rfl, rfl, rfl, by decide +kernel, rfl, by decide +kernel, by decide +kernel⟩
def b_Standing___and__ (cf : CF) : SM := (sSeq (sEx (gL (cf (.g "check_wires")) (gCons (gVar 0) (gCons (gVar 1) gNil)))) (sSeq (sAsg (aName 2) (gL gZipL (gCons (g1 (gAttr B cf "_marks") (gVar 0)) (gCons (g1 (gAttr B cf "marks") (gVar 1)) gNil)))) (sSeq (sRet (gL (gNew cf "Standing" false) (gCons (gL gTupT (gCons (gLc false (iSeq (gVar 2)) (aName 3) cYes (gMet .l mIndex (gVar 2) (gCons (gVar 3) gNil)) [3]) gNil)) gNil))) sNext)))
def r_Standing___and__ (cf : CF) : List RV → M RV := runDef false 2 4 (b_Standing___and__ cf)
theorem d_Standing___and__ (E0 : En) {f : Addr} {fd : FuncData} (F : FunD E0.K "__and__" "Standing.__and__" (defArgs s_Standing___and__) (defBody s_Standing___and__) (defScope s_Standing___and__) [] [] f fd) {cf : CF} {k : Nat} (D : DefsE E0 B k cf) (A0 : All E0 B frees) : FI E0.P E0.w E0.K E0.mg E0.base E0.tb (k + 5) f (r_Standing___and__ cf) :=
  def_ok (tb := E0.tb) F sc_Standing___and__ (F.bindsN fun _ _ _ _ _ _ us hl => match us, hl with | [_, _], _ => rfl) fun cdv A outer s H E hg hr =>
    have C : Ctx (cxOf (L2.CX E0.P E0.w) E0.P E0.w E0.K E0.mg E0.base n_Standing___and__ "Standing.__and__" (defScope s_Standing___and__) f cdv A outer s H E) E0.tb B frees E0.er k cf := A0.ctx D hg (hr.mono (by omega))
    have tk : Takes (cxOf (L2.CX E0.P E0.w) E0.P E0.w E0.K E0.mg E0.base n_Standing___and__ "Standing.__and__" (defScope s_Standing___and__) f cdv A outer s H E) (fun c d _ H => E c d H) := takes_of rfl rfl rfl rfl
    (pss_cons_ (xex (xg C tk (by decide +kernel) (xa (xv 0 (by first | exact Or.inl rfl | exact Or.inr (Or.inl rfl) | exact Or.inr (Or.inr rfl))) (xa (xv 1 (by first | exact Or.inl rfl | exact Or.inr (Or.inl rfl) | exact Or.inr (Or.inr rfl))) pa_nil_)))) (pss_cons_ (xset 2 (by first | exact Or.inl rfl | exact Or.inr rfl) (xlZ C (by decide +kernel) (by decide +kernel) (xa (xf C (xv 0 (by first | exact Or.inl rfl | exact Or.inr (Or.inl rfl) | exact Or.inr (Or.inr rfl)))) (xa (xf C (xv 1 (by first | exact Or.inl rfl | exact Or.inr (Or.inl rfl) | exact Or.inr (Or.inr rfl)))) pa_nil_))) (hd := sc_Standing___and__.nd)) (pss_cons_ (ps_ret_ (xn C tk false (by decide +kernel) (xa (xt C run_tup (by decide +kernel) rfl (xa (xlc false [("pair", 3)] (pi_seq_ (xv 2 (by first | exact Or.inl rfl | exact Or.inr (Or.inl rfl) | exact Or.inr (Or.inr rfl)))) (blkOk_by (N := n_Standing___and__) (sc := defScope s_Standing___and__) (by decide +kernel)) (fun _ _ _ _ _ => (xpn 3 (by first | exact Or.inl rfl | exact Or.inr rfl) (hd := sc_Standing___and__.nd))) (fun _ _ _ _ _ => (pts_nil_ rfl rfl)) (fun _ _ _ _ _ => (xq .l PySem.F.plainAttrs_list PySem.F.slot_list_index PySem.F.type_list_index (run_index (C.to).u65) (xv 2 (by first | exact Or.inl rfl | exact Or.inr (Or.inl rfl) | exact Or.inr (Or.inr rfl))) (xa (xv 3 (by first | exact Or.inl rfl | exact Or.inr (Or.inl rfl) | exact Or.inr (Or.inr rfl))) pa_nil_))) (hd := sc_Standing___and__.nd)) pa_nil_)) pa_nil_))) pss_nil_)))
abbrev s_Standing___eq__ : Stmt := inClass (top 11) 9
abbrev n_Standing___eq__ : List Str := ["self", "other"]
theorem sc_Standing___eq__ : FnScope n_Standing___eq__ ["self", "other"] (defScope s_Standing___eq__) := ⟨rfl, rfl, rfl, by decide +kernel, rfl, by decide +kernel, by decide +kernel⟩
def b_Standing___eq__ (cf : CF) : SM := (sSeq (sRet (vAnd (gL (gR2 (fIs B)) (gCons (gVar 1) (gCons (gC (.cl (.own "Standing"))) gNil))) (g2 (bySelf (ownEq B cf) (gEq false)) (g1 (gAttr B cf "_marks") (gVar 0)) (g1 (gAttr B cf "_marks") (gVar 1))))) sNext)
def r_Standing___eq__ (cf : CF) : List RV → M RV := runDef false 2 2 (b_Standing___eq__ cf)
theorem d_Standing___eq__ (E0 : En) {f : Addr} {fd : FuncData} (F : FunD E0.K "__eq__" "Standing.__eq__" (defArgs s_Standing___eq__) (defBody s_Standing___eq__) (defScope s_Standing___eq__) [] [] f fd) {cf : CF} {k : Nat} (D : DefsE E0 B k cf) (A0 : All E0 B frees) : FI E0.P E0.w E0.K E0.mg E0.base E0.tb (k + 5) f (r_Standing___eq__ cf) :=
  def_ok (tb := E0.tb) F sc_Standing___eq__ (F.bindsN fun _ _ _ _ _ _ us hl => match us, hl with | [_, _], _ => rfl) fun cdv A outer s H E hg hr =>
    have C : Ctx (cxOf (L2.CX E0.P E0.w) E0.P E0.w E0.K E0.mg E0.base n_Standing___eq__ "Standing.__eq__" (defScope s_Standing___eq__) f cdv A outer s H E) E0.tb B frees E0.er k cf := A0.ctx D hg (hr.mono (by omega))
    have tk : Takes (cxOf (L2.CX E0.P E0.w) E0.P E0.w E0.K E0.mg E0.base n_Standing___eq__ "Standing.__eq__" (defScope s_Standing___eq__) f cdv A outer s H E) (fun c d _ H => E c d H) := takes_of rfl rfl rfl rfl
    (pss_cons_ (ps_ret_ (pe_and_ (xb C (run_isa C.fa) (by decide +kernel) rfl (xa (xv 1 (by first | exact Or.inl rfl | exact Or.inr (Or.inl rfl) | exact Or.inr (Or.inr rfl))) (xa (xclO C (by decide +kernel)) pa_nil_))) (pe_one_ (pe_cmp_ (reqs C tk) (xf C (xv 0 (by first | exact Or.inl rfl | exact Or.inr (Or.inl rfl) | exact Or.inr (Or.inr rfl)))) (xf C (xv 1 (by first | exact Or.inl rfl | exact Or.inr (Or.inl rfl) | exact Or.inr (Or.inr rfl)))) (by first | rfl | exact nomark _ | with_unfolding_all rfl))))) pss_nil_)
abbrev s_is_int : Stmt := top 7
abbrev n_is_int : List Str := ["value"]
theorem sc_is_int : FnScope n_is_int ["value"] (defScope s_is_int) := ⟨rfl, rfl, rfl, by decide +kernel, rfl, by decide +kernel, by decide +kernel⟩
def b_is_int (cf : CF) : SM := (sSeq (sRet (vAnd (gL (gR2 (fIs B)) (gCons (gVar 0) (gCons (gC (.cl (.ty "int"))) gNil))) (vNot (gL (gR2 (fIs B)) (gCons (gVar 0) (gCons (gC (.cl (.ty "bool"))) gNil)))))) sNext)
def r_is_int (cf : CF) : List RV → M RV := runDef false 1 1 (b_is_int cf)
theorem d_is_int (E0 : En) {f : Addr} {fd : FuncData} (F : FunD E0.K "is_int" "is_int" (defArgs s_is_int) (defBody s_is_int) (defScope s_is_int) [] [] f fd) {cf : CF} {k : Nat} (D : DefsE E0 B k cf) (A0 : All E0 B frees) : FI E0.P E0.w E0.K E0.mg E0.base E0.tb (k + 5) f (r_is_int cf) :=
  def_ok (tb := E0.tb) F sc_is_int (F.bindsN fun _ _ _ _ _ _ us hl => match us, hl with | [_], _ => rfl) fun cdv A outer s H E hg hr =>
    have C : Ctx (cxOf (L2.CX E0.P E0.w) E0.P E0.w E0.K E0.mg E0.base n_is_int "is_int" (defScope s_is_int) f cdv A outer s H E) E0.tb B frees E0.er k cf := A0.ctx D hg (hr.mono (by omega))
    have tk : Takes (cxOf (L2.CX E0.P E0.w) E0.P E0.w E0.K E0.mg E0.base n_is_int "is_int" (defScope s_is_int) f cdv A outer s H E) (fun c d _ H => E c d H) := takes_of rfl rfl rfl rfl
    (pss_cons_ (ps_ret_ (pe_and_ (xb C (run_isa C.fa) (by decide +kernel) rfl (xa (xv 0 (by first | exact Or.inl rfl | exact Or.inr (Or.inl rfl) | exact Or.inr (Or.inr rfl))) (xa (xclT C (by decide +kernel) rfl) pa_nil_))) (pe_one_ (pe_not_ (xb C (run_isa C.fa) (by decide +kernel) rfl (xa (xv 0 (by first | exact Or.inl rfl | exact Or.inr (Or.inl rfl) | exact Or.inr (Or.inr rfl))) (xa (xclT C (by decide +kernel) rfl) pa_nil_))))))) pss_nil_)
abbrev s_are_marks : Stmt := top 12
abbrev n_are_marks : List Str := ["value", "at", "mark"]
theorem sc_are_marks : FnScope n_are_marks ["value"] (defScope s_are_marks) := ⟨rfl, rfl, rfl, by decide +kernel, rfl, by decide +kernel, by decide +kernel⟩
def b_are_marks (cf : CF) : SM := (sSeq (sIf (bOr (bNot (gTru (gL (gR2 (fIs B)) (gCons (gVar 0) (gCons (gC (.cl (.ty "tuple"))) gNil))))) (bNot (gAsB (gCh (gOrd .LtE) (gOrd .LtE) (g2 (gBin false .Add) (gC (.int 1)) (gC (.int 2))) (gL (gR1 fLen) (gCons (gVar 0) gNil)) (g2 (gBin false .Add) (gC (.int 4)) (gC (.int 2))))))) (sSeq (sRet (gC (.bl false))) sNext) sNext) (sSeq (sRet (gL (gR1 fAll) (gCons (gLc false (iEnumA (gCons (gVar 0) gNil)) (aTup 2 (aCons (aName 1) (aCons (aName 2) aNil))) cYes (vAnd (gL (cf (.g "is_int")) (gCons (gVar 2) gNil)) (vAnd (gCh (gOrd .LtE) (gOrd .LtE) (gC (.int 0)) (gVar 2) (gVar 1)) (g2 (bySelf (ownEq B cf) (gEq false)) (g2 gIdx (gVar 0) (gVar 2)) (gVar 2)))) [1, 2]) gNil))) sNext))
def r_are_marks (cf : CF) : List RV → M RV := runDef false 1 3 (b_are_marks cf)
theorem d_are_marks (E0 : En) {f : Addr} {fd : FuncData} (F : FunD E0.K "are_marks" "are_marks" (defArgs s_are_marks) (defBody s_are_marks) (defScope s_are_marks) [] [] f fd) {cf : CF} {k : Nat} (D : DefsE E0 B k cf) (A0 : All E0 B frees) : FI E0.P E0.w E0.K E0.mg E0.base E0.tb (k + 5) f (r_are_marks cf) :=
  def_ok (tb := E0.tb) F sc_are_marks (F.bindsN fun _ _ _ _ _ _ us hl => match us, hl with | [_], _ => rfl) fun cdv A outer s H E hg hr =>
    have C : Ctx (cxOf (L2.CX E0.P E0.w) E0.P E0.w E0.K E0.mg E0.base n_are_marks "are_marks" (defScope s_are_marks) f cdv A outer s H E) E0.tb B frees E0.er k cf := A0.ctx D hg (hr.mono (by omega))
    have tk : Takes (cxOf (L2.CX E0.P E0.w) E0.P E0.w E0.K E0.mg E0.base n_are_marks "are_marks" (defScope s_are_marks) f cdv A outer s H E) (fun c d _ H => E c d H) := takes_of rfl rfl rfl rfl
    (pss_cons_ (ps_if_ (PW.pt (pw_or_ (pt_not_ (xtr (xb C (run_isa C.fa) (by decide +kernel) rfl (xa (xv 0 (by first | exact Or.inl rfl | exact Or.inr (Or.inl rfl) | exact Or.inr (Or.inr rfl))) (xa (xclT C (by decide +kernel) rfl) pa_nil_))))) (pw_or1_ (pt_not_ (xtch .LtE .LtE (xo false .Add (xcst C (List.mem_of_getElem? (i := 0) rfl)) xint) (xb C run_len (by decide +kernel) rfl (xa (xv 0 (by first | exact Or.inl rfl | exact Or.inr (Or.inl rfl) | exact Or.inr (Or.inr rfl))) pa_nil_)) (xo false .Add (xcst C (List.mem_of_getElem? (i := 1) rfl)) xint)))))) (pss_cons_ (ps_ret_ xbl) pss_nil_) pss_nil_) (pss_cons_ (ps_ret_ (xb C (run_all rfl) (by decide +kernel) rfl (xa (xlc false [("at", 1), ("mark", 2)] (xen C (by decide +kernel) (xa (xv 0 (by first | exact Or.inl rfl | exact Or.inr (Or.inl rfl) | exact Or.inr (Or.inr rfl))) pa_nil_)) (blkOk_by (N := n_are_marks) (sc := defScope s_are_marks) (by decide +kernel)) (fun _ _ _ _ _ => (xpt 2 (pgs_cons_ (xpn 1 (by first | exact Or.inl rfl | exact Or.inr rfl) (hd := sc_are_marks.nd)) (pgs_cons_ (xpn 2 (by first | exact Or.inl rfl | exact Or.inr rfl) (hd := sc_are_marks.nd)) pgs_nil_ rfl) rfl))) (fun _ _ _ _ _ => (pts_nil_ rfl rfl)) (fun _ _ _ _ _ => (pe_and_ (xg (C.to) takes_false (by decide +kernel) (xa (xv 2 (by first | exact Or.inl rfl | exact Or.inr (Or.inl rfl) | exact Or.inr (Or.inr rfl))) pa_nil_)) (pe_and_ (xch .LtE .LtE xint (xv 2 (by first | exact Or.inl rfl | exact Or.inr (Or.inl rfl) | exact Or.inr (Or.inr rfl))) (xv 1 (by first | exact Or.inl rfl | exact Or.inr (Or.inl rfl) | exact Or.inr (Or.inr rfl)))) (pe_one_ (pe_cmp_ (reqs (C.to) takes_false) (xi (C.to) (xv 0 (by first | exact Or.inl rfl | exact Or.inr (Or.inl rfl) | exact Or.inr (Or.inr rfl))) (xv 2 (by first | exact Or.inl rfl | exact Or.inr (Or.inl rfl) | exact Or.inr (Or.inr rfl)))) (xv 2 (by first | exact Or.inl rfl | exact Or.inr (Or.inl rfl) | exact Or.inr (Or.inr rfl))) (by first | rfl | exact nomark _ | with_unfolding_all rfl)))))) (hd := sc_are_marks.nd)) pa_nil_))) pss_nil_))
abbrev s_check_wires : Stmt := top 13
abbrev n_check_wires : List Str := ["one", "other"]
theorem sc_check_wires : FnScope n_check_wires ["one", "other"] (defScope s_check_wires) := ⟨rfl, rfl, rfl, by decide +kernel, rfl, by decide +kernel, by decide +kernel⟩
def b_check_wires (cf : CF) : SM := (sSeq (sIf (gAsB (g2 (bySelf (ownNe B cf) (gEq true)) (g1 (gAttr B cf "wires") (gVar 0)) (g1 (gAttr B cf "wires") (gVar 1)))) (sSeq (sRaise "OtherWires" (gCons (gVar 1) gNil)) sNext) sNext) sNext)
def r_check_wires (cf : CF) : List RV → M RV := runDef false 2 2 (b_check_wires cf)
theorem d_check_wires (E0 : En) {f : Addr} {fd : FuncData} (F : FunD E0.K "check_wires" "check_wires" (defArgs s_check_wires) (defBody s_check_wires) (defScope s_check_wires) [] [] f fd) {cf : CF} {k : Nat} (D : DefsE E0 B k cf) (A0 : All E0 B frees) : FI E0.P E0.w E0.K E0.mg E0.base E0.tb (k + 5) f (r_check_wires cf) :=
  def_ok (tb := E0.tb) F sc_check_wires (F.bindsN fun _ _ _ _ _ _ us hl => match us, hl with | [_, _], _ => rfl) fun cdv A outer s H E hg hr =>
    have C : Ctx (cxOf (L2.CX E0.P E0.w) E0.P E0.w E0.K E0.mg E0.base n_check_wires "check_wires" (defScope s_check_wires) f cdv A outer s H E) E0.tb B frees E0.er k cf := A0.ctx D hg (hr.mono (by omega))
    have tk : Takes (cxOf (L2.CX E0.P E0.w) E0.P E0.w E0.K E0.mg E0.base n_check_wires "check_wires" (defScope s_check_wires) f cdv A outer s H E) (fun c d _ H => E c d H) := takes_of rfl rfl rfl rfl
    (pss_cons_ (ps_if_ (pt_cmp_ (rnes C tk) (xf C (xv 0 (by first | exact Or.inl rfl | exact Or.inr (Or.inl rfl) | exact Or.inr (Or.inr rfl)))) (xf C (xv 1 (by first | exact Or.inl rfl | exact Or.inr (Or.inl rfl) | exact Or.inr (Or.inr rfl)))) (by first | rfl | exact nomark _ | with_unfolding_all rfl)) (pss_cons_ (xraise C tk (by decide +kernel) (xa (xv 1 (by first | exact Or.inl rfl | exact Or.inr (Or.inl rfl) | exact Or.inr (Or.inr rfl))) pa_nil_)) pss_nil_) pss_nil_) pss_nil_)
abbrev s_merged : Stmt := top 14
abbrev n_merged : List Str := ["marks", "one", "other", "low", "high", "mark"]
theorem sc_merged : FnScope n_merged ["marks", "one", "other"] (defScope s_merged) := ⟨rfl, rfl, rfl, by decide +kernel, rfl, by decide +kernel, by decide +kernel⟩
def b_merged (cf : CF) : SM := (sSeq (sAsg (aName 3) (gL (gR2 fMin) (gCons (g2 gIdx (gVar 0) (gVar 1)) (gCons (g2 gIdx (gVar 0) (gVar 2)) gNil)))) (sSeq (sAsg (aName 4) (gL (gR2 fMax) (gCons (g2 gIdx (gVar 0) (gVar 1)) (gCons (g2 gIdx (gVar 0) (gVar 2)) gNil)))) (sSeq (sRet (gL gTupT (gCons (gLc false (iSeq (gVar 0)) (aName 5) cYes (gIf (gAsB (g2 (bySelf (ownEq B cf) (gEq false)) (gVar 5) (gVar 4))) (gVar 3) (gVar 5)) [5]) gNil))) sNext)))
def r_merged (cf : CF) : List RV → M RV := runDef false 3 6 (b_merged cf)
theorem d_merged (E0 : En) {f : Addr} {fd : FuncData} (F : FunD E0.K "merged" "merged" (defArgs s_merged) (defBody s_merged) (defScope s_merged) [] [] f fd) {cf : CF} {k : Nat} (D : DefsE E0 B k cf) (A0 : All E0 B frees) : FI E0.P E0.w E0.K E0.mg E0.base E0.tb (k + 5) f (r_merged cf) :=
  def_ok (tb := E0.tb) F sc_merged (F.bindsN fun _ _ _ _ _ _ us hl => match us, hl with | [_, _, _], _ => rfl) fun cdv A outer s H E hg hr =>
    have C : Ctx (cxOf (L2.CX E0.P E0.w) E0.P E0.w E0.K E0.mg E0.base n_merged "merged" (defScope s_merged) f cdv A outer s H E) E0.tb B frees E0.er k cf := A0.ctx D hg (hr.mono (by omega))
    have tk : Takes (cxOf (L2.CX E0.P E0.w) E0.P E0.w E0.K E0.mg E0.base n_merged "merged" (defScope s_merged) f cdv A outer s H E) (fun c d _ H => E c d H) := takes_of rfl rfl rfl rfl
    (pss_cons_ (xset 3 (by first | exact Or.inl rfl | exact Or.inr rfl) (xb C (run_min rfl) (by decide +kernel) rfl (xa (xi C (xv 0 (by first | exact Or.inl rfl | exact Or.inr (Or.inl rfl) | exact Or.inr (Or.inr rfl))) (xv 1 (by first | exact Or.inl rfl | exact Or.inr (Or.inl rfl) | exact Or.inr (Or.inr rfl)))) (xa (xi C (xv 0 (by first | exact Or.inl rfl | exact Or.inr (Or.inl rfl) | exact Or.inr (Or.inr rfl))) (xv 2 (by first | exact Or.inl rfl | exact Or.inr (Or.inl rfl) | exact Or.inr (Or.inr rfl)))) pa_nil_))) (hd := sc_merged.nd)) (pss_cons_ (xset 4 (by first | exact Or.inl rfl | exact Or.inr rfl) (xb C (run_max rfl) (by decide +kernel) rfl (xa (xi C (xv 0 (by first | exact Or.inl rfl | exact Or.inr (Or.inl rfl) | exact Or.inr (Or.inr rfl))) (xv 1 (by first | exact Or.inl rfl | exact Or.inr (Or.inl rfl) | exact Or.inr (Or.inr rfl)))) (xa (xi C (xv 0 (by first | exact Or.inl rfl | exact Or.inr (Or.inl rfl) | exact Or.inr (Or.inr rfl))) (xv 2 (by first | exact Or.inl rfl | exact Or.inr (Or.inl rfl) | exact Or.inr (Or.inr rfl)))) pa_nil_))) (hd := sc_merged.nd)) (pss_cons_ (ps_ret_ (xt C run_tup (by decide +kernel) rfl (xa (xlc false [("mark", 5)] (pi_seq_ (xv 0 (by first | exact Or.inl rfl | exact Or.inr (Or.inl rfl) | exact Or.inr (Or.inr rfl)))) (blkOk_by (N := n_merged) (sc := defScope s_merged) (by decide +kernel)) (fun _ _ _ _ _ => (xpn 5 (by first | exact Or.inl rfl | exact Or.inr rfl) (hd := sc_merged.nd))) (fun _ _ _ _ _ => (pts_nil_ rfl rfl)) (fun _ _ _ _ _ => (pe_ife_ (pt_cmp_ (reqs (C.to) takes_false) (xv 5 (by first | exact Or.inl rfl | exact Or.inr (Or.inl rfl) | exact Or.inr (Or.inr rfl))) (xv 4 (by first | exact Or.inl rfl | exact Or.inr (Or.inl rfl) | exact Or.inr (Or.inr rfl))) (by first | rfl | exact nomark _ | with_unfolding_all rfl)) (xv 3 (by first | exact Or.inl rfl | exact Or.inr (Or.inl rfl) | exact Or.inr (Or.inr rfl))) (xv 5 (by first | exact Or.inl rfl | exact Or.inr (Or.inl rfl) | exact Or.inr (Or.inr rfl))))) (hd := sc_merged.nd)) pa_nil_))) pss_nil_)))
abbrev s__law_pot : Stmt := top 16
abbrev n__law_pot : List Str := ["_law_script", "_law_place", "_law_cell", "_law_own", "_law_small"]
theorem sc__law_pot : FnScope n__law_pot ["_law_script", "_law_place"] (defScope s__law_pot) := ⟨rfl, rfl, rfl, by decide +kernel, rfl, by decide +kernel, by decide +kernel⟩
def b__law_pot (cf : CF) : SM := (sSeq (sAsg (aName 2) (gIf (gAsB (g2 (gOrd .Lt) (gVar 1) (gL (gR1 fLen) (gCons (gVar 0) gNil)))) (g2 gIdx (gVar 0) (gVar 1)) (g2 (gBin false .Add) (g2 (gBin false .Mult) (gC (.int 173)) (gVar 1)) (gC (.int 83))))) (sSeq (sAsg (aName 3) (g2 (gBin false .Mult) (g2 (gBin false .Mod) (gL (gR1 fInt) (gCons (gL (gR1 fAbs) (gCons (gVar 2) gNil)) gNil)) (g2 (gBin false .Pow) (g2 (gBin false .Pow) (gC (.int 10)) (gC (.int 60))) (gC (.int 5)))) (gL (gR1 fInt) (gCons (g2 (gOrd .GtE) (gL (gR1 fAbs) (gCons (gVar 2) gNil)) (g2 (gBin false .Pow) (gC (.int 10)) (gC (.int 18)))) gNil)))) (sSeq (sAsg (aName 4) (g2 (gBin false .Mod) (gL (gR1 fInt) (gCons (gVar 2) gNil)) (gC (.int 2305843009213693951)))) (sSeq (sRet (gLst true (gCons (gVar 3) (gCons (g2 (gBin false .Mod) (gL (gR1 fInt) (gCons (g2 (gBin false .Add) (g2 (gBin false .Add) (g2 (gBin false .Mult) (gVar 4) (gC (.int 70313))) (g2 (gBin false .Mult) (g2 (gBin false .Mult) (gC (.int 7297)) (gVar 1)) (gVar 1))) (gC (.int 151))) gNil)) (gC (.int 2305843009213693921))) (gCons (gC (.int 0)) gNil))))) sNext))))
def r__law_pot (cf : CF) : List RV → M RV := runDef true 2 5 (b__law_pot cf)
theorem d__law_pot (E0 : En) {f : Addr} {fd : FuncData} (F : FunD E0.K "_law_pot" "_law_pot" (defArgs s__law_pot) (defBody s__law_pot) (defScope s__law_pot) [] [] f fd) {cf : CF} {k : Nat} (D : DefsE E0 B k cf) (A0 : All E0 B frees) : FI E0.P E0.w E0.K E0.mg E0.base E0.tb (k + 5) f (r__law_pot cf) :=
  def_ok (tb := E0.tb) F sc__law_pot (F.bindsN fun _ _ _ _ _ _ us hl => match us, hl with | [_, _], _ => rfl) fun cdv A outer s H E hg hr =>
    have C : Ctx (cxOf (L2.CX E0.P E0.w) E0.P E0.w E0.K E0.mg E0.base n__law_pot "_law_pot" (defScope s__law_pot) f cdv A outer s H E) E0.tb B frees E0.er k cf := A0.ctx D hg (hr.mono (by omega))
    have tk : Takes (cxOf (L2.CX E0.P E0.w) E0.P E0.w E0.K E0.mg E0.base n__law_pot "_law_pot" (defScope s__law_pot) f cdv A outer s H E) (fun c d _ H => E c d H) := takes_of rfl rfl rfl rfl
    (pss_cons_ (xset 2 (by first | exact Or.inl rfl | exact Or.inr rfl) (pe_ife_ (pt_cmp_ (run_ord .Lt) (xv 1 (by first | exact Or.inl rfl | exact Or.inr (Or.inl rfl) | exact Or.inr (Or.inr rfl))) (xb C run_len (by decide +kernel) rfl (xa (xv 0 (by first | exact Or.inl rfl | exact Or.inr (Or.inl rfl) | exact Or.inr (Or.inr rfl))) pa_nil_)) (by first | rfl | exact nomark _ | with_unfolding_all rfl)) (xi C (xv 0 (by first | exact Or.inl rfl | exact Or.inr (Or.inl rfl) | exact Or.inr (Or.inr rfl))) (xv 1 (by first | exact Or.inl rfl | exact Or.inr (Or.inl rfl) | exact Or.inr (Or.inr rfl)))) (xo false .Add (xo false .Mult xint (xv 1 (by first | exact Or.inl rfl | exact Or.inr (Or.inl rfl) | exact Or.inr (Or.inr rfl)))) xint)) (hd := sc__law_pot.nd)) (pss_cons_ (xset 3 (by first | exact Or.inl rfl | exact Or.inr rfl) (xo false .Mult (xo false .Mod (xt C run_int (by decide +kernel) rfl (xa (xb C run_abs (by decide +kernel) rfl (xa (xv 2 (by first | exact Or.inl rfl | exact Or.inr (Or.inl rfl) | exact Or.inr (Or.inr rfl))) pa_nil_)) pa_nil_)) (xo false .Pow (xo false .Pow xint xint) xint)) (xt C run_int (by decide +kernel) rfl (xa (pe_cmp_ (run_ord .GtE) (xb C run_abs (by decide +kernel) rfl (xa (xv 2 (by first | exact Or.inl rfl | exact Or.inr (Or.inl rfl) | exact Or.inr (Or.inr rfl))) pa_nil_)) (xo false .Pow xint xint) (by first | rfl | exact nomark _ | with_unfolding_all rfl)) pa_nil_))) (hd := sc__law_pot.nd)) (pss_cons_ (xset 4 (by first | exact Or.inl rfl | exact Or.inr rfl) (xo false .Mod (xt C run_int (by decide +kernel) rfl (xa (xv 2 (by first | exact Or.inl rfl | exact Or.inr (Or.inl rfl) | exact Or.inr (Or.inr rfl))) pa_nil_)) xint) (hd := sc__law_pot.nd)) (pss_cons_ (ps_ret_ (pe_lst_ (hp := true) (xa (xv 3 (by first | exact Or.inl rfl | exact Or.inr (Or.inl rfl) | exact Or.inr (Or.inr rfl))) (xa (xo false .Mod (xt C run_int (by decide +kernel) rfl (xa (xo false .Add (xo false .Add (xo false .Mult (xv 4 (by first | exact Or.inl rfl | exact Or.inr (Or.inl rfl) | exact Or.inr (Or.inr rfl))) xint) (xo false .Mult (xo false .Mult xint (xv 1 (by first | exact Or.inl rfl | exact Or.inr (Or.inl rfl) | exact Or.inr (Or.inr rfl)))) (xv 1 (by first | exact Or.inl rfl | exact Or.inr (Or.inl rfl) | exact Or.inr (Or.inr rfl))))) xint) pa_nil_)) xint) (xa xint pa_nil_))))) pss_nil_))))
abbrev s__law_take : Stmt := top 17
abbrev n__law_take : List Str := ["_law_pot_here", "_law_upto", "_law_digit", "_law_prime", "_law_mixed"]
theorem sc__law_take : FnScope n__law_take ["_law_pot_here", "_law_upto"] (defScope s__law_take) := ⟨rfl, rfl, rfl, by decide +kernel, rfl, by decide +kernel, by decide +kernel⟩
def b__law_take (cf : CF) : SM := (sSeq (sIf (gAsB (g2 (gOrd .Gt) (g2 gIdx (gVar 0) (gC (.int 0))) (gC (.int 0)))) (sSeq (sAsg (aName 2) (g2 (gBin false .Mod) (gL (gR1 fInt) (gCons (g2 gIdx (gVar 0) (gC (.int 0))) gNil)) (gVar 1))) (sSeq (sSub (gVar 0) (gC (.int 0)) (g2 (gBin false .FloorDiv) (g2 gIdx (gVar 0) (gC (.int 0))) (gVar 1))) (sSeq (sRet (gVar 2)) sNext))) sNext) (sSeq (sSub (gVar 0) (gC (.int 2)) (g2 (gBin false .Add) (g2 gIdx (gVar 0) (gC (.int 2))) (gC (.int 1)))) (sSeq (sAsg (aName 3) (g2 gIdx (gLst false (gCons (gC (.int 2147483647)) (gCons (gC (.int 2147483629)) (gCons (gC (.int 2147483587)) (gCons (gC (.int 2147483579)) (gCons (gC (.int 2147483563)) gNil)))))) (g2 (gBin false .Mod) (gL (gR1 fInt) (gCons (g2 gIdx (gVar 0) (gC (.int 2))) gNil)) (gC (.int 5))))) (sSeq (sAsg (aName 4) (g2 (gBin false .Mod) (gL (gR1 fInt) (gCons (g2 (gBin false .Pow) (gL (gR1 fInt) (gCons (g2 (gBin false .Add) (g2 (gBin false .Add) (g2 gIdx (gVar 0) (gC (.int 1))) (g2 (gBin false .Mult) (g2 (gBin false .Mult) (gC (.int 99809)) (g2 gIdx (gVar 0) (gC (.int 2)))) (g2 gIdx (gVar 0) (gC (.int 2))))) (gC (.int 59))) gNil)) (gC (.int 3))) gNil)) (gVar 3))) (sSeq (sAsg (aName 4) (g2 (gBin false .Mod) (gL (gR1 fInt) (gCons (g2 (gBin false .Mult) (gVar 4) (g2 (gBin false .Add) (g2 (gBin false .Mod) (gL (gR1 fInt) (gCons (gVar 4) gNil)) (gC (.int 10433))) (g2 (gBin false .Mult) (gC (.int 151)) (g2 gIdx (gVar 0) (gC (.int 2)))))) gNil)) (gC (.int 2305843009213693907)))) (sSeq (sRet (g2 (gBin false .Mod) (gL (gR1 fInt) (gCons (g2 (gBin false .FloorDiv) (gVar 4) (gC (.int 143))) gNil)) (gVar 1))) sNext))))))
def r__law_take (cf : CF) : List RV → M RV := runDef false 2 5 (b__law_take cf)
theorem d__law_take (E0 : En) {f : Addr} {fd : FuncData} (F : FunD E0.K "_law_take" "_law_take" (defArgs s__law_take) (defBody s__law_take) (defScope s__law_take) [] [] f fd) {cf : CF} {k : Nat} (D : DefsE E0 B k cf) (A0 : All E0 B frees) : FI E0.P E0.w E0.K E0.mg E0.base E0.tb (k + 5) f (r__law_take cf) :=
  def_ok (tb := E0.tb) F sc__law_take (F.bindsN fun _ _ _ _ _ _ us hl => match us, hl with | [_, _], _ => rfl) fun cdv A outer s H E hg hr =>
    have C : Ctx (cxOf (L2.CX E0.P E0.w) E0.P E0.w E0.K E0.mg E0.base n__law_take "_law_take" (defScope s__law_take) f cdv A outer s H E) E0.tb B frees E0.er k cf := A0.ctx D hg (hr.mono (by omega))
    have tk : Takes (cxOf (L2.CX E0.P E0.w) E0.P E0.w E0.K E0.mg E0.base n__law_take "_law_take" (defScope s__law_take) f cdv A outer s H E) (fun c d _ H => E c d H) := takes_of rfl rfl rfl rfl
    (pss_cons_ (ps_if_ (pt_cmp_ (run_ord .Gt) (xi C (xv 0 (by first | exact Or.inl rfl | exact Or.inr (Or.inl rfl) | exact Or.inr (Or.inr rfl))) xint) xint (by first | rfl | exact nomark _ | with_unfolding_all rfl)) (pss_cons_ (xset 2 (by first | exact Or.inl rfl | exact Or.inr rfl) (xo false .Mod (xt C run_int (by decide +kernel) rfl (xa (xi C (xv 0 (by first | exact Or.inl rfl | exact Or.inr (Or.inl rfl) | exact Or.inr (Or.inr rfl))) xint) pa_nil_)) (xv 1 (by first | exact Or.inl rfl | exact Or.inr (Or.inl rfl) | exact Or.inr (Or.inr rfl)))) (hd := sc__law_take.nd)) (pss_cons_ (xsub (xv 0 (by first | exact Or.inl rfl | exact Or.inr (Or.inl rfl) | exact Or.inr (Or.inr rfl))) xint (xo false .FloorDiv (xi C (xv 0 (by first | exact Or.inl rfl | exact Or.inr (Or.inl rfl) | exact Or.inr (Or.inr rfl))) xint) (xv 1 (by first | exact Or.inl rfl | exact Or.inr (Or.inl rfl) | exact Or.inr (Or.inr rfl))))) (pss_cons_ (ps_ret_ (xv 2 (by first | exact Or.inl rfl | exact Or.inr (Or.inl rfl) | exact Or.inr (Or.inr rfl)))) pss_nil_))) pss_nil_) (pss_cons_ (xsub (xv 0 (by first | exact Or.inl rfl | exact Or.inr (Or.inl rfl) | exact Or.inr (Or.inr rfl))) xint (xo false .Add (xi C (xv 0 (by first | exact Or.inl rfl | exact Or.inr (Or.inl rfl) | exact Or.inr (Or.inr rfl))) xint) xint)) (pss_cons_ (xset 3 (by first | exact Or.inl rfl | exact Or.inr rfl) (xi C (pe_lst_ (hp := false) (xa xint (xa xint (xa xint (xa xint (xa xint pa_nil_)))))) (xo false .Mod (xt C run_int (by decide +kernel) rfl (xa (xi C (xv 0 (by first | exact Or.inl rfl | exact Or.inr (Or.inl rfl) | exact Or.inr (Or.inr rfl))) xint) pa_nil_)) xint)) (hd := sc__law_take.nd)) (pss_cons_ (xset 4 (by first | exact Or.inl rfl | exact Or.inr rfl) (xo false .Mod (xt C run_int (by decide +kernel) rfl (xa (xo false .Pow (xt C run_int (by decide +kernel) rfl (xa (xo false .Add (xo false .Add (xi C (xv 0 (by first | exact Or.inl rfl | exact Or.inr (Or.inl rfl) | exact Or.inr (Or.inr rfl))) xint) (xo false .Mult (xo false .Mult xint (xi C (xv 0 (by first | exact Or.inl rfl | exact Or.inr (Or.inl rfl) | exact Or.inr (Or.inr rfl))) xint)) (xi C (xv 0 (by first | exact Or.inl rfl | exact Or.inr (Or.inl rfl) | exact Or.inr (Or.inr rfl))) xint))) xint) pa_nil_)) xint) pa_nil_)) (xv 3 (by first | exact Or.inl rfl | exact Or.inr (Or.inl rfl) | exact Or.inr (Or.inr rfl)))) (hd := sc__law_take.nd)) (pss_cons_ (xset 4 (by first | exact Or.inl rfl | exact Or.inr rfl) (xo false .Mod (xt C run_int (by decide +kernel) rfl (xa (xo false .Mult (xv 4 (by first | exact Or.inl rfl | exact Or.inr (Or.inl rfl) | exact Or.inr (Or.inr rfl))) (xo false .Add (xo false .Mod (xt C run_int (by decide +kernel) rfl (xa (xv 4 (by first | exact Or.inl rfl | exact Or.inr (Or.inl rfl) | exact Or.inr (Or.inr rfl))) pa_nil_)) xint) (xo false .Mult xint (xi C (xv 0 (by first | exact Or.inl rfl | exact Or.inr (Or.inl rfl) | exact Or.inr (Or.inr rfl))) xint)))) pa_nil_)) xint) (hd := sc__law_take.nd)) (pss_cons_ (ps_ret_ (xo false .Mod (xt C run_int (by decide +kernel) rfl (xa (xo false .FloorDiv (xv 4 (by first | exact Or.inl rfl | exact Or.inr (Or.inl rfl) | exact Or.inr (Or.inr rfl))) xint) pa_nil_)) (xv 1 (by first | exact Or.inl rfl | exact Or.inr (Or.inl rfl) | exact Or.inr (Or.inr rfl))))) pss_nil_))))))
abbrev s__law_of : Stmt := top 18
abbrev n__law_of : List Str := ["_law_pot_here", "_law_some"]
theorem sc__law_of : FnScope n__law_of ["_law_pot_here", "_law_some"] (defScope s__law_of) := ⟨rfl, rfl, rfl, by decide +kernel, rfl, by decide +kernel, by decide +kernel⟩
def b__law_of (cf : CF) : SM := (sSeq (sRet (g2 gIdx (gVar 1) (gL (cf (.g "_law_take")) (gCons (gVar 0) (gCons (gL (gR1 fLen) (gCons (gVar 1) gNil)) gNil))))) sNext)
def r__law_of (cf : CF) : List RV → M RV := runDef false 2 2 (b__law_of cf)
theorem d__law_of (E0 : En) {f : Addr} {fd : FuncData} (F : FunD E0.K "_law_of" "_law_of" (defArgs s__law_of) (defBody s__law_of) (defScope s__law_of) [] [] f fd) {cf : CF} {k : Nat} (D : DefsE E0 B k cf) (A0 : All E0 B frees) : FI E0.P E0.w E0.K E0.mg E0.base E0.tb (k + 5) f (r__law_of cf) :=
  def_ok (tb := E0.tb) F sc__law_of (F.bindsN fun _ _ _ _ _ _ us hl => match us, hl with | [_, _], _ => rfl) fun cdv A outer s H E hg hr =>
    have C : Ctx (cxOf (L2.CX E0.P E0.w) E0.P E0.w E0.K E0.mg E0.base n__law_of "_law_of" (defScope s__law_of) f cdv A outer s H E) E0.tb B frees E0.er k cf := A0.ctx D hg (hr.mono (by omega))
    have tk : Takes (cxOf (L2.CX E0.P E0.w) E0.P E0.w E0.K E0.mg E0.base n__law_of "_law_of" (defScope s__law_of) f cdv A outer s H E) (fun c d _ H => E c d H) := takes_of rfl rfl rfl rfl
    (pss_cons_ (ps_ret_ (xi C (xv 1 (by first | exact Or.inl rfl | exact Or.inr (Or.inl rfl) | exact Or.inr (Or.inr rfl))) (xg C tk (by decide +kernel) (xa (xv 0 (by first | exact Or.inl rfl | exact Or.inr (Or.inl rfl) | exact Or.inr (Or.inr rfl))) (xa (xb C run_len (by decide +kernel) rfl (xa (xv 1 (by first | exact Or.inl rfl | exact Or.inr (Or.inl rfl) | exact Or.inr (Or.inr rfl))) pa_nil_)) pa_nil_))))) pss_nil_)
abbrev s__law_cells : Stmt := top 19
abbrev n__law_cells : List Str := ["_law_script", "_law_limit"]
theorem sc__law_cells : FnScope n__law_cells ["_law_script", "_law_limit"] (defScope s__law_cells) := ⟨rfl, rfl, rfl, by decide +kernel, rfl, by decide +kernel, by decide +kernel⟩
def b__law_cells (cf : CF) : SM := (sSeq (sRet (gRg1 false .lst (gL (gR2 fMax) (gCons (gC (.int 1)) (gCons (gL (gR2 fMin) (gCons (gVar 1) (gCons (gL (gR1 fLen) (gCons (gVar 0) gNil)) gNil))) gNil))))) sNext)
def r__law_cells (cf : CF) : List RV → M RV := runDef false 2 2 (b__law_cells cf)
theorem d__law_cells (E0 : En) {f : Addr} {fd : FuncData} (F : FunD E0.K "_law_cells" "_law_cells" (defArgs s__law_cells) (defBody s__law_cells) (defScope s__law_cells) [] [] f fd) {cf : CF} {k : Nat} (D : DefsE E0 B k cf) (A0 : All E0 B frees) : FI E0.P E0.w E0.K E0.mg E0.base E0.tb (k + 5) f (r__law_cells cf) :=
  def_ok (tb := E0.tb) F sc__law_cells (F.bindsN fun _ _ _ _ _ _ us hl => match us, hl with | [_, _], _ => rfl) fun cdv A outer s H E hg hr =>
    have C : Ctx (cxOf (L2.CX E0.P E0.w) E0.P E0.w E0.K E0.mg E0.base n__law_cells "_law_cells" (defScope s__law_cells) f cdv A outer s H E) E0.tb B frees E0.er k cf := A0.ctx D hg (hr.mono (by omega))
    have tk : Takes (cxOf (L2.CX E0.P E0.w) E0.P E0.w E0.K E0.mg E0.base n__law_cells "_law_cells" (defScope s__law_cells) f cdv A outer s H E) (fun c d _ H => E c d H) := takes_of rfl rfl rfl rfl
    (pss_cons_ (ps_ret_ (xlR1 (hp := false) C (by decide +kernel) (by decide +kernel) (xb C (run_max rfl) (by decide +kernel) rfl (xa xint (xa (xb C (run_min rfl) (by decide +kernel) rfl (xa (xv 1 (by first | exact Or.inl rfl | exact Or.inr (Or.inl rfl) | exact Or.inr (Or.inr rfl))) (xa (xb C run_len (by decide +kernel) rfl (xa (xv 0 (by first | exact Or.inl rfl | exact Or.inr (Or.inl rfl) | exact Or.inr (Or.inr rfl))) pa_nil_)) pa_nil_))) pa_nil_))))) pss_nil_)
abbrev s__law_odd : Stmt := top 21
abbrev n__law_odd : List Str := ["_law_pot_here", "_law_some"]
theorem sc__law_odd : FnScope n__law_odd ["_law_pot_here"] (defScope s__law_odd) := ⟨rfl, rfl, rfl, by decide +kernel, rfl, by decide +kernel, by decide +kernel⟩
def b__law_odd (cf : CF) : SM := (sSeq (sAsg (aName 1) (gLst false (gCons (gC (.non)) (gCons (gC (.bl true)) (gCons (gC (.bl false)) (gCons (gC (.int 0)) (gCons (gC (.int 1)) (gCons (g1 gNeg (gC (.int 1))) (gCons (gC (.int 2)) (gCons (gC (.str "")) (gCons (gC (.str "x")) (gCons (gC (.str "lit")) (gCons (gC (.str "keeps")) (gCons (gTup gNil) (gCons (gLst false gNil) (gCons (gDict0 false) (gCons (gTup (gCons (gTup gNil) gNil)) (gCons (gTup (gCons (gC (.int 0)) gNil)) (gCons (gLst false (gCons (gC (.int 0)) gNil)) (gCons (gTup (gCons (gC (.str "short")) gNil)) gNil)))))))))))))))))))) (sSeq (sRet (gL (cf (.g "_law_of")) (gCons (gVar 0) (gCons (g2 (gBin false .Add) (gVar 1) (gLst false (gCons (gTup (gCons (gC (.int 0)) (gCons (gTup (gCons (gC (.int 0)) (gCons (gC (.int 1)) (gCons (gC (.int 2)) gNil)))) gNil))) (gCons (gC (.str "foot")) (gCons (gTup (gCons (gC (.str "foot")) (gCons (gTup (gCons (gC (.int 0)) gNil)) gNil))) gNil))))) gNil)))) sNext))
def r__law_odd (cf : CF) : List RV → M RV := runDef false 1 2 (b__law_odd cf)
theorem d__law_odd (E0 : En) {f : Addr} {fd : FuncData} (F : FunD E0.K "_law_odd" "_law_odd" (defArgs s__law_odd) (defBody s__law_odd) (defScope s__law_odd) [] [] f fd) {cf : CF} {k : Nat} (D : DefsE E0 B k cf) (A0 : All E0 B frees) : FI E0.P E0.w E0.K E0.mg E0.base E0.tb (k + 5) f (r__law_odd cf) :=
  def_ok (tb := E0.tb) F sc__law_odd (F.bindsN fun _ _ _ _ _ _ us hl => match us, hl with | [_], _ => rfl) fun cdv A outer s H E hg hr =>
    have C : Ctx (cxOf (L2.CX E0.P E0.w) E0.P E0.w E0.K E0.mg E0.base n__law_odd "_law_odd" (defScope s__law_odd) f cdv A outer s H E) E0.tb B frees E0.er k cf := A0.ctx D hg (hr.mono (by omega))
    have tk : Takes (cxOf (L2.CX E0.P E0.w) E0.P E0.w E0.K E0.mg E0.base n__law_odd "_law_odd" (defScope s__law_odd) f cdv A outer s H E) (fun c d _ H => E c d H) := takes_of rfl rfl rfl rfl
    (pss_cons_ (xset 1 (by first | exact Or.inl rfl | exact Or.inr rfl) (pe_lst_ (hp := false) (xa xnon (xa xbl (xa xbl (xa xint (xa xint (xa (xneg xint) (xa xint (xa xstr (xa xstr (xa xstr (xa xstr (xa (pe_tup_ pa_nil_) (xa (pe_lst_ (hp := false) pa_nil_) (xa (xd0 false) (xa (pe_tup_ (xa (pe_tup_ pa_nil_) pa_nil_)) (xa (pe_tup_ (xa xint pa_nil_)) (xa (pe_lst_ (hp := false) (xa xint pa_nil_)) (xa (pe_tup_ (xa xstr pa_nil_)) pa_nil_))))))))))))))))))) (hd := sc__law_odd.nd)) (pss_cons_ (ps_ret_ (xg C tk (by decide +kernel) (xa (xv 0 (by first | exact Or.inl rfl | exact Or.inr (Or.inl rfl) | exact Or.inr (Or.inr rfl))) (xa (xo false .Add (xv 1 (by first | exact Or.inl rfl | exact Or.inr (Or.inl rfl) | exact Or.inr (Or.inr rfl))) (pe_lst_ (hp := false) (xa (pe_tup_ (xa xint (xa (pe_tup_ (xa xint (xa xint (xa xint pa_nil_)))) pa_nil_))) (xa xstr (xa (pe_tup_ (xa xstr (xa (pe_tup_ (xa xint pa_nil_)) pa_nil_))) pa_nil_))))) pa_nil_)))) pss_nil_))
abbrev s__law_bent_value : Stmt := top 22
abbrev n__law_bent_value : List Str := ["_law_pot_here", "_law_value", "_law_at"]
theorem sc__law_bent_value : FnScope n__law_bent_value ["_law_pot_here", "_law_value"] (defScope s__law_bent_value) := ⟨rfl, rfl, rfl, by decide +kernel, rfl, by decide +kernel, by decide +kernel⟩
def b__law_bent_value (cf : CF) : SM := (sSeq (sIf (bAnd (gTru (gL (gR2 (fIs B)) (gCons (gVar 1) (gCons (gC (.cl (.ty "tuple"))) gNil)))) (bAnd (gAsB (g2 (bySelf (ownNe B cf) (gEq true)) (gVar 1) (gTup gNil))) (gAsB (g2 (gOrd .Gt) (gL (cf (.g "_law_take")) (gCons (gVar 0) (gCons (gC (.int 6)) gNil))) (gC (.int 0)))))) (sSeq (sAsg (aName 2) (gL (cf (.g "_law_take")) (gCons (gVar 0) (gCons (gL (gR1 fLen) (gCons (gVar 1) gNil)) gNil)))) (sSeq (sRet (g2 (gBin false .Add) (g2 (gBin false .Add) (g3 (gSlc false) (gVar 1) (gPart none) (gPart (some (gVar 2)))) (gTup (gCons (gL (cf (.g "_law_bent_value")) (gCons (gVar 0) (gCons (g2 gIdx (gVar 1) (gVar 2)) gNil))) gNil))) (g3 (gSlc false) (gVar 1) (gPart (some (g2 (gBin false .Add) (gVar 2) (gC (.int 1))))) (gPart none)))) sNext)) sNext) (sSeq (sIf (gTru (gL (gR2 (fIs B)) (gCons (gVar 1) (gCons (gC (.cl (.ty "tuple"))) gNil)))) (sSeq (sRet (gL (cf (.g "_law_of")) (gCons (gVar 0) (gCons (gLst false (gCons (gL (gList false) (gCons (gVar 1) gNil)) (gCons (g3 (gSlc false) (gVar 1) (gPart (some (gC (.int 1)))) (gPart none)) (gCons (g3 (gSlc false) (gVar 1) (gPart none) (gPart (some (g1 gNeg (gC (.int 1)))))) (gCons (g2 (gBin false .Add) (gVar 1) (g3 (gSlc false) (gVar 1) (gPart (some (g1 gNeg (gC (.int 1))))) (gPart none))) (gCons (g1 (gRev false) (gVar 1)) (gCons (gTup gNil) (gCons (gC (.non)) gNil)))))))) gNil)))) sNext) sNext) (sSeq (sIf (bOr (gTru (gL (gR2 (fIs B)) (gCons (gVar 1) (gCons (gC (.cl (.ty "bool"))) gNil)))) (gAsB (g2 (gIs false) (gVar 1) (gC (.non))))) (sSeq (sRet (gL (cf (.g "_law_odd")) (gCons (gVar 0) gNil))) sNext) sNext) (sSeq (sIf (gTru (gL (gR2 (fIs B)) (gCons (gVar 1) (gCons (gC (.cl (.ty "int"))) gNil)))) (sSeq (sRet (gL (cf (.g "_law_of")) (gCons (gVar 0) (gCons (gLst false (gCons (g2 (gBin false .Add) (gVar 1) (gC (.int 1))) (gCons (g2 (gBin false .Sub) (gVar 1) (gC (.int 1))) (gCons (g2 (bySelf (ownEq B cf) (gEq false)) (gVar 1) (gC (.int 1))) (gCons (gL (gR1 fStr) (gCons (gVar 1) gNil)) (gCons (gC (.int 0)) (gCons (gC (.non)) gNil))))))) gNil)))) sNext) sNext) (sSeq (sIf (gTru (gL (gR2 (fIs B)) (gCons (gVar 1) (gCons (gC (.cl (.ty "str"))) gNil)))) (sSeq (sRet (gL (cf (.g "_law_of")) (gCons (gVar 0) (gCons (gLst false (gCons (g2 (gBin false .Add) (gVar 1) (gC (.str "x"))) (gCons (g3 (gSlc false) (gVar 1) (gPart none) (gPart (some (g1 gNeg (gC (.int 1)))))) (gCons (gC (.str "lit")) (gCons (gC (.str "a")) (gCons (gC (.non)) (gCons (gC (.int 0)) (gCons (gLst false (gCons (gVar 1) gNil)) gNil)))))))) gNil)))) sNext) sNext) (sSeq (sRet (gL (cf (.g "_law_odd")) (gCons (gVar 0) gNil))) sNext))))))
def r__law_bent_value (cf : CF) : List RV → M RV := runDef false 2 3 (b__law_bent_value cf)
theorem d__law_bent_value (E0 : En) {f : Addr} {fd : FuncData} (F : FunD E0.K "_law_bent_value" "_law_bent_value" (defArgs s__law_bent_value) (defBody s__law_bent_value) (defScope s__law_bent_value) [] [] f fd) {cf : CF} {k : Nat} (D : DefsE E0 B k cf) (A0 : All E0 B frees) : FI E0.P E0.w E0.K E0.mg E0.base E0.tb (k + 5) f (r__law_bent_value cf) :=
  def_ok (tb := E0.tb) F sc__law_bent_value (F.bindsN fun _ _ _ _ _ _ us hl => match us, hl with | [_, _], _ => rfl) fun cdv A outer s H E hg hr =>
    have C : Ctx (cxOf (L2.CX E0.P E0.w) E0.P E0.w E0.K E0.mg E0.base n__law_bent_value "_law_bent_value" (defScope s__law_bent_value) f cdv A outer s H E) E0.tb B frees E0.er k cf := A0.ctx D hg (hr.mono (by omega))
    have tk : Takes (cxOf (L2.CX E0.P E0.w) E0.P E0.w E0.K E0.mg E0.base n__law_bent_value "_law_bent_value" (defScope s__law_bent_value) f cdv A outer s H E) (fun c d _ H => E c d H) := takes_of rfl rfl rfl rfl
    (pss_cons_ (ps_if_ (PW.pt (pw_and_ (xtr (xb C (run_isa C.fa) (by decide +kernel) rfl (xa (xv 1 (by first | exact Or.inl rfl | exact Or.inr (Or.inl rfl) | exact Or.inr (Or.inr rfl))) (xa (xclT C (by decide +kernel) rfl) pa_nil_)))) (pw_and_ (pt_cmp_ (rnes C tk) (xv 1 (by first | exact Or.inl rfl | exact Or.inr (Or.inl rfl) | exact Or.inr (Or.inr rfl))) (pe_tup_ pa_nil_) (by first | rfl | exact nomark _ | with_unfolding_all rfl)) (pw_and1_ (pt_cmp_ (run_ord .Gt) (xg C tk (by decide +kernel) (xa (xv 0 (by first | exact Or.inl rfl | exact Or.inr (Or.inl rfl) | exact Or.inr (Or.inr rfl))) (xa xint pa_nil_))) xint (by first | rfl | exact nomark _ | with_unfolding_all rfl)))))) (pss_cons_ (xset 2 (by first | exact Or.inl rfl | exact Or.inr rfl) (xg C tk (by decide +kernel) (xa (xv 0 (by first | exact Or.inl rfl | exact Or.inr (Or.inl rfl) | exact Or.inr (Or.inr rfl))) (xa (xb C run_len (by decide +kernel) rfl (xa (xv 1 (by first | exact Or.inl rfl | exact Or.inr (Or.inl rfl) | exact Or.inr (Or.inr rfl))) pa_nil_)) pa_nil_))) (hd := sc__law_bent_value.nd)) (pss_cons_ (ps_ret_ (xo false .Add (xo false .Add (pe_slc_ (hp := false) (xv 1 (by first | exact Or.inl rfl | exact Or.inr (Or.inl rfl) | exact Or.inr (Or.inr rfl))) po_none_ (po_some_ (xv 2 (by first | exact Or.inl rfl | exact Or.inr (Or.inl rfl) | exact Or.inr (Or.inr rfl))))) (pe_tup_ (xa (xg C tk (by decide +kernel) (xa (xv 0 (by first | exact Or.inl rfl | exact Or.inr (Or.inl rfl) | exact Or.inr (Or.inr rfl))) (xa (xi C (xv 1 (by first | exact Or.inl rfl | exact Or.inr (Or.inl rfl) | exact Or.inr (Or.inr rfl))) (xv 2 (by first | exact Or.inl rfl | exact Or.inr (Or.inl rfl) | exact Or.inr (Or.inr rfl)))) pa_nil_))) pa_nil_))) (pe_slc_ (hp := false) (xv 1 (by first | exact Or.inl rfl | exact Or.inr (Or.inl rfl) | exact Or.inr (Or.inr rfl))) (po_some_ (xo false .Add (xv 2 (by first | exact Or.inl rfl | exact Or.inr (Or.inl rfl) | exact Or.inr (Or.inr rfl))) xint)) po_none_))) pss_nil_)) pss_nil_) (pss_cons_ (ps_if_ (xtr (xb C (run_isa C.fa) (by decide +kernel) rfl (xa (xv 1 (by first | exact Or.inl rfl | exact Or.inr (Or.inl rfl) | exact Or.inr (Or.inr rfl))) (xa (xclT C (by decide +kernel) rfl) pa_nil_)))) (pss_cons_ (ps_ret_ (xg C tk (by decide +kernel) (xa (xv 0 (by first | exact Or.inl rfl | exact Or.inr (Or.inl rfl) | exact Or.inr (Or.inr rfl))) (xa (pe_lst_ (hp := false) (xa (xt C (run_list (hp := false) rfl) (by decide +kernel) rfl (xa (xv 1 (by first | exact Or.inl rfl | exact Or.inr (Or.inl rfl) | exact Or.inr (Or.inr rfl))) pa_nil_)) (xa (pe_slc_ (hp := false) (xv 1 (by first | exact Or.inl rfl | exact Or.inr (Or.inl rfl) | exact Or.inr (Or.inr rfl))) (po_some_ xint) po_none_) (xa (pe_slc_ (hp := false) (xv 1 (by first | exact Or.inl rfl | exact Or.inr (Or.inl rfl) | exact Or.inr (Or.inr rfl))) po_none_ (po_some_ (xneg xint))) (xa (xo false .Add (xv 1 (by first | exact Or.inl rfl | exact Or.inr (Or.inl rfl) | exact Or.inr (Or.inr rfl))) (pe_slc_ (hp := false) (xv 1 (by first | exact Or.inl rfl | exact Or.inr (Or.inl rfl) | exact Or.inr (Or.inr rfl))) (po_some_ (xneg xint)) po_none_)) (xa (pe_rev_ (hp := false) (xv 1 (by first | exact Or.inl rfl | exact Or.inr (Or.inl rfl) | exact Or.inr (Or.inr rfl)))) (xa (pe_tup_ pa_nil_) (xa xnon pa_nil_)))))))) pa_nil_)))) pss_nil_) pss_nil_) (pss_cons_ (ps_if_ (PW.pt (pw_or_ (xtr (xb C (run_isa C.fa) (by decide +kernel) rfl (xa (xv 1 (by first | exact Or.inl rfl | exact Or.inr (Or.inl rfl) | exact Or.inr (Or.inr rfl))) (xa (xclT C (by decide +kernel) rfl) pa_nil_)))) (pw_or1_ (pt_cmp_ run_is (xv 1 (by first | exact Or.inl rfl | exact Or.inr (Or.inl rfl) | exact Or.inr (Or.inr rfl))) xnon (by first | rfl | exact nomark _ | with_unfolding_all rfl))))) (pss_cons_ (ps_ret_ (xg C tk (by decide +kernel) (xa (xv 0 (by first | exact Or.inl rfl | exact Or.inr (Or.inl rfl) | exact Or.inr (Or.inr rfl))) pa_nil_))) pss_nil_) pss_nil_) (pss_cons_ (ps_if_ (xtr (xb C (run_isa C.fa) (by decide +kernel) rfl (xa (xv 1 (by first | exact Or.inl rfl | exact Or.inr (Or.inl rfl) | exact Or.inr (Or.inr rfl))) (xa (xclT C (by decide +kernel) rfl) pa_nil_)))) (pss_cons_ (ps_ret_ (xg C tk (by decide +kernel) (xa (xv 0 (by first | exact Or.inl rfl | exact Or.inr (Or.inl rfl) | exact Or.inr (Or.inr rfl))) (xa (pe_lst_ (hp := false) (xa (xo false .Add (xv 1 (by first | exact Or.inl rfl | exact Or.inr (Or.inl rfl) | exact Or.inr (Or.inr rfl))) xint) (xa (xo false .Sub (xv 1 (by first | exact Or.inl rfl | exact Or.inr (Or.inl rfl) | exact Or.inr (Or.inr rfl))) xint) (xa (pe_cmp_ (reqs C tk) (xv 1 (by first | exact Or.inl rfl | exact Or.inr (Or.inl rfl) | exact Or.inr (Or.inr rfl))) xint (by first | rfl | exact nomark _ | with_unfolding_all rfl)) (xa (xt C run_str (by decide +kernel) rfl (xa (xv 1 (by first | exact Or.inl rfl | exact Or.inr (Or.inl rfl) | exact Or.inr (Or.inr rfl))) pa_nil_)) (xa xint (xa xnon pa_nil_))))))) pa_nil_)))) pss_nil_) pss_nil_) (pss_cons_ (ps_if_ (xtr (xb C (run_isa C.fa) (by decide +kernel) rfl (xa (xv 1 (by first | exact Or.inl rfl | exact Or.inr (Or.inl rfl) | exact Or.inr (Or.inr rfl))) (xa (xclT C (by decide +kernel) rfl) pa_nil_)))) (pss_cons_ (ps_ret_ (xg C tk (by decide +kernel) (xa (xv 0 (by first | exact Or.inl rfl | exact Or.inr (Or.inl rfl) | exact Or.inr (Or.inr rfl))) (xa (pe_lst_ (hp := false) (xa (xo false .Add (xv 1 (by first | exact Or.inl rfl | exact Or.inr (Or.inl rfl) | exact Or.inr (Or.inr rfl))) xstr) (xa (pe_slc_ (hp := false) (xv 1 (by first | exact Or.inl rfl | exact Or.inr (Or.inl rfl) | exact Or.inr (Or.inr rfl))) po_none_ (po_some_ (xneg xint))) (xa xstr (xa xstr (xa xnon (xa xint (xa (pe_lst_ (hp := false) (xa (xv 1 (by first | exact Or.inl rfl | exact Or.inr (Or.inl rfl) | exact Or.inr (Or.inr rfl))) pa_nil_)) pa_nil_)))))))) pa_nil_)))) pss_nil_) pss_nil_) (pss_cons_ (ps_ret_ (xg C tk (by decide +kernel) (xa (xv 0 (by first | exact Or.inl rfl | exact Or.inr (Or.inl rfl) | exact Or.inr (Or.inr rfl))) pa_nil_))) pss_nil_))))))
abbrev s__law_all_marks : Stmt := top 23
abbrev n__law_all_marks : List Str := ["_law_count", "_law_found", "_law_number", "_law_longer", "_law_some", "_law_mark"]
theorem sc__law_all_marks : FnScope n__law_all_marks ["_law_count"] (defScope s__law_all_marks) := ⟨rfl, rfl, rfl, by decide +kernel, rfl, by decide +kernel, by decide +kernel⟩
def b__law_all_marks (cf : CF) : SM := (sSeq (sAsg (aName 1) (gLst false (gCons (gTup gNil) gNil))) (sSeq (sFor (iRng1 (gCons (gVar 0) gNil)) (aName 2) (sSeq (sAsg (aName 3) (gLst true gNil)) (sSeq (sFor (iSeq (gVar 1)) (aName 4) (sSeq (sEx (gMet .l mExtend (gVar 3) (gCons (gLc false (iSeq (gL (gSortedSet false) (gCons (gVar 4) gNil))) (aName 5) cYes (g2 (gBin false .Add) (gVar 4) (gTup (gCons (gVar 5) gNil))) [5]) gNil))) (sSeq (sEx (gMet .l mAppend (gVar 3) (gCons (g2 (gBin false .Add) (gVar 4) (gTup (gCons (gVar 2) gNil))) gNil))) sNext))) (sSeq (sAsg (aName 1) (gVar 3)) sNext)))) (sSeq (sRet (gVar 1)) sNext)))
def r__law_all_marks (cf : CF) : List RV → M RV := runDef false 1 6 (b__law_all_marks cf)
theorem d__law_all_marks (E0 : En) {f : Addr} {fd : FuncData} (F : FunD E0.K "_law_all_marks" "_law_all_marks" (defArgs s__law_all_marks) (defBody s__law_all_marks) (defScope s__law_all_marks) [] [] f fd) {cf : CF} {k : Nat} (D : DefsE E0 B k cf) (A0 : All E0 B frees) : FI E0.P E0.w E0.K E0.mg E0.base E0.tb (k + 5) f (r__law_all_marks cf) :=
  def_ok (tb := E0.tb) F sc__law_all_marks (F.bindsN fun _ _ _ _ _ _ us hl => match us, hl with | [_], _ => rfl) fun cdv A outer s H E hg hr =>
    have C : Ctx (cxOf (L2.CX E0.P E0.w) E0.P E0.w E0.K E0.mg E0.base n__law_all_marks "_law_all_marks" (defScope s__law_all_marks) f cdv A outer s H E) E0.tb B frees E0.er k cf := A0.ctx D hg (hr.mono (by omega))
    have tk : Takes (cxOf (L2.CX E0.P E0.w) E0.P E0.w E0.K E0.mg E0.base n__law_all_marks "_law_all_marks" (defScope s__law_all_marks) f cdv A outer s H E) (fun c d _ H => E c d H) := takes_of rfl rfl rfl rfl
    (pss_cons_ (xset 1 (by first | exact Or.inl rfl | exact Or.inr rfl) (pe_lst_ (hp := false) (xa (pe_tup_ pa_nil_) pa_nil_)) (hd := sc__law_all_marks.nd)) (pss_cons_ (xfor (own := [2]) (passes_of rfl) (xrg1 C (by decide +kernel) (xa (xv 0 (by first | exact Or.inl rfl | exact Or.inr (Or.inl rfl) | exact Or.inr (Or.inr rfl))) pa_nil_)) (xpn 2 (by first | exact Or.inl rfl | exact Or.inr rfl) (hd := sc__law_all_marks.nd)) (pss_cons_ (xset 3 (by first | exact Or.inl rfl | exact Or.inr rfl) (pe_lst_ (hp := true) pa_nil_) (hd := sc__law_all_marks.nd)) (pss_cons_ (xfor (own := [4]) (passes_of rfl) (pi_seq_ (xv 1 (by first | exact Or.inl rfl | exact Or.inr (Or.inl rfl) | exact Or.inr (Or.inr rfl)))) (xpn 4 (by first | exact Or.inl rfl | exact Or.inr rfl) (hd := sc__law_all_marks.nd)) (pss_cons_ (xex (xq .l PySem.F.plainAttrs_list PySem.F.slot_list_extend PySem.F.type_list_extend run_extend (xv 3 (by first | exact Or.inl rfl | exact Or.inr (Or.inl rfl) | exact Or.inr (Or.inr rfl))) (xa (xlc false [("_law_mark", 5)] (pi_seq_ (xss (hp := false) C (by decide +kernel) (by decide +kernel) (xa (xv 4 (by first | exact Or.inl rfl | exact Or.inr (Or.inl rfl) | exact Or.inr (Or.inr rfl))) pa_nil_))) (blkOk_by (N := n__law_all_marks) (sc := defScope s__law_all_marks) (by decide +kernel)) (fun _ _ _ _ _ => (xpn 5 (by first | exact Or.inl rfl | exact Or.inr rfl) (hd := sc__law_all_marks.nd))) (fun _ _ _ _ _ => (pts_nil_ rfl rfl)) (fun _ _ _ _ _ => (xo false .Add (xv 4 (by first | exact Or.inl rfl | exact Or.inr (Or.inl rfl) | exact Or.inr (Or.inr rfl))) (pe_tup_ (xa (xv 5 (by first | exact Or.inl rfl | exact Or.inr (Or.inl rfl) | exact Or.inr (Or.inr rfl))) pa_nil_)))) (hd := sc__law_all_marks.nd)) pa_nil_))) (pss_cons_ (xex (xq .l PySem.F.plainAttrs_list PySem.F.slot_list_append PySem.F.type_list_append run_append (xv 3 (by first | exact Or.inl rfl | exact Or.inr (Or.inl rfl) | exact Or.inr (Or.inr rfl))) (xa (xo false .Add (xv 4 (by first | exact Or.inl rfl | exact Or.inr (Or.inl rfl) | exact Or.inr (Or.inr rfl))) (pe_tup_ (xa (xv 2 (by first | exact Or.inl rfl | exact Or.inr (Or.inl rfl) | exact Or.inr (Or.inr rfl))) pa_nil_))) pa_nil_))) pss_nil_))) (pss_cons_ (xset 1 (by first | exact Or.inl rfl | exact Or.inr rfl) (xv 3 (by first | exact Or.inl rfl | exact Or.inr (Or.inl rfl) | exact Or.inr (Or.inr rfl))) (hd := sc__law_all_marks.nd)) pss_nil_)))) (pss_cons_ (ps_ret_ (xv 1 (by first | exact Or.inl rfl | exact Or.inr (Or.inl rfl) | exact Or.inr (Or.inr rfl)))) pss_nil_)))
abbrev s__law_drawn_marks : Stmt := top 24
abbrev n__law_drawn_marks : List Str := ["_law_pot_here", "_law_count", "_law_found", "_law_number"]
theorem sc__law_drawn_marks : FnScope n__law_drawn_marks ["_law_pot_here", "_law_count"] (defScope s__law_drawn_marks) := ⟨rfl, rfl, rfl, by decide +kernel, rfl, by decide +kernel, by decide +kernel⟩
def b__law_drawn_marks (cf : CF) : SM := (sSeq (sAsg (aName 2) (gTup gNil)) (sSeq (sFor (iRng1 (gCons (gVar 1) gNil)) (aName 3) (sSeq (sAsg (aName 2) (g2 (gBin false .Add) (gVar 2) (gTup (gCons (gL (cf (.g "_law_of")) (gCons (gVar 0) (gCons (g2 (gBin false .Add) (gLst false (gCons (gVar 3) gNil)) (gL (gSortedSet false) (gCons (gVar 2) gNil))) gNil))) gNil)))) sNext)) (sSeq (sRet (gVar 2)) sNext)))
def r__law_drawn_marks (cf : CF) : List RV → M RV := runDef false 2 4 (b__law_drawn_marks cf)
theorem d__law_drawn_marks (E0 : En) {f : Addr} {fd : FuncData} (F : FunD E0.K "_law_drawn_marks" "_law_drawn_marks" (defArgs s__law_drawn_marks) (defBody s__law_drawn_marks) (defScope s__law_drawn_marks) [] [] f fd) {cf : CF} {k : Nat} (D : DefsE E0 B k cf) (A0 : All E0 B frees) : FI E0.P E0.w E0.K E0.mg E0.base E0.tb (k + 5) f (r__law_drawn_marks cf) :=
  def_ok (tb := E0.tb) F sc__law_drawn_marks (F.bindsN fun _ _ _ _ _ _ us hl => match us, hl with | [_, _], _ => rfl) fun cdv A outer s H E hg hr =>
    have C : Ctx (cxOf (L2.CX E0.P E0.w) E0.P E0.w E0.K E0.mg E0.base n__law_drawn_marks "_law_drawn_marks" (defScope s__law_drawn_marks) f cdv A outer s H E) E0.tb B frees E0.er k cf := A0.ctx D hg (hr.mono (by omega))
    have tk : Takes (cxOf (L2.CX E0.P E0.w) E0.P E0.w E0.K E0.mg E0.base n__law_drawn_marks "_law_drawn_marks" (defScope s__law_drawn_marks) f cdv A outer s H E) (fun c d _ H => E c d H) := takes_of rfl rfl rfl rfl
    (pss_cons_ (xset 2 (by first | exact Or.inl rfl | exact Or.inr rfl) (pe_tup_ pa_nil_) (hd := sc__law_drawn_marks.nd)) (pss_cons_ (xfor (own := [3]) (passes_of rfl) (xrg1 C (by decide +kernel) (xa (xv 1 (by first | exact Or.inl rfl | exact Or.inr (Or.inl rfl) | exact Or.inr (Or.inr rfl))) pa_nil_)) (xpn 3 (by first | exact Or.inl rfl | exact Or.inr rfl) (hd := sc__law_drawn_marks.nd)) (pss_cons_ (xset 2 (by first | exact Or.inl rfl | exact Or.inr rfl) (xo false .Add (xv 2 (by first | exact Or.inl rfl | exact Or.inr (Or.inl rfl) | exact Or.inr (Or.inr rfl))) (pe_tup_ (xa (xg C tk (by decide +kernel) (xa (xv 0 (by first | exact Or.inl rfl | exact Or.inr (Or.inl rfl) | exact Or.inr (Or.inr rfl))) (xa (xo false .Add (pe_lst_ (hp := false) (xa (xv 3 (by first | exact Or.inl rfl | exact Or.inr (Or.inl rfl) | exact Or.inr (Or.inr rfl))) pa_nil_)) (xss (hp := false) C (by decide +kernel) (by decide +kernel) (xa (xv 2 (by first | exact Or.inl rfl | exact Or.inr (Or.inl rfl) | exact Or.inr (Or.inr rfl))) pa_nil_))) pa_nil_))) pa_nil_))) (hd := sc__law_drawn_marks.nd)) pss_nil_)) (pss_cons_ (ps_ret_ (xv 2 (by first | exact Or.inl rfl | exact Or.inr (Or.inl rfl) | exact Or.inr (Or.inr rfl)))) pss_nil_)))
abbrev s__law_are_marks : Stmt := top 25
abbrev n__law_are_marks : List Str := ["_law_value", "_law_number", "_law_mark"]
theorem sc__law_are_marks : FnScope n__law_are_marks ["_law_value"] (defScope s__law_are_marks) := ⟨rfl, rfl, rfl, by decide +kernel, rfl, by decide +kernel, by decide +kernel⟩
def b__law_are_marks (cf : CF) : SM := (sSeq (sIf (bOr (bNot (gTru (gL (gR2 (fIs B)) (gCons (gVar 0) (gCons (gC (.cl (.ty "tuple"))) gNil))))) (bNot (gAsB (gCh (gOrd .LtE) (gOrd .LtE) (gC (.int 3)) (gL (gR1 fLen) (gCons (gVar 0) gNil)) (gC (.int 6)))))) (sSeq (sRet (gC (.bl false))) sNext) sNext) (sSeq (sFor (iEnumA (gCons (gVar 0) gNil)) (aTup 2 (aCons (aName 1) (aCons (aName 2) aNil))) (sSeq (sIf (bOr (bNot (gTru (gL (gR2 (fIs B)) (gCons (gVar 2) (gCons (gC (.cl (.ty "int"))) gNil))))) (bOr (gTru (gL (gR2 (fIs B)) (gCons (gVar 2) (gCons (gC (.cl (.ty "bool"))) gNil)))) (bNot (gAsB (gCh (gOrd .LtE) (gOrd .LtE) (gC (.int 0)) (gVar 2) (gVar 1)))))) (sSeq (sRet (gC (.bl false))) sNext) sNext) sNext)) (sSeq (sRet (gL (gR1 fAll) (gCons (gLc false (iSeq (gVar 0)) (aName 2) cYes (g2 (bySelf (ownEq B cf) (gEq false)) (g2 gIdx (gVar 0) (gVar 2)) (gVar 2)) [2]) gNil))) sNext)))
def r__law_are_marks (cf : CF) : List RV → M RV := runDef false 1 3 (b__law_are_marks cf)
theorem d__law_are_marks (E0 : En) {f : Addr} {fd : FuncData} (F : FunD E0.K "_law_are_marks" "_law_are_marks" (defArgs s__law_are_marks) (defBody s__law_are_marks) (defScope s__law_are_marks) [] [] f fd) {cf : CF} {k : Nat} (D : DefsE E0 B k cf) (A0 : All E0 B frees) : FI E0.P E0.w E0.K E0.mg E0.base E0.tb (k + 5) f (r__law_are_marks cf) :=
  def_ok (tb := E0.tb) F sc__law_are_marks (F.bindsN fun _ _ _ _ _ _ us hl => match us, hl with | [_], _ => rfl) fun cdv A outer s H E hg hr =>
    have C : Ctx (cxOf (L2.CX E0.P E0.w) E0.P E0.w E0.K E0.mg E0.base n__law_are_marks "_law_are_marks" (defScope s__law_are_marks) f cdv A outer s H E) E0.tb B frees E0.er k cf := A0.ctx D hg (hr.mono (by omega))
    have tk : Takes (cxOf (L2.CX E0.P E0.w) E0.P E0.w E0.K E0.mg E0.base n__law_are_marks "_law_are_marks" (defScope s__law_are_marks) f cdv A outer s H E) (fun c d _ H => E c d H) := takes_of rfl rfl rfl rfl
    (pss_cons_ (ps_if_ (PW.pt (pw_or_ (pt_not_ (xtr (xb C (run_isa C.fa) (by decide +kernel) rfl (xa (xv 0 (by first | exact Or.inl rfl | exact Or.inr (Or.inl rfl) | exact Or.inr (Or.inr rfl))) (xa (xclT C (by decide +kernel) rfl) pa_nil_))))) (pw_or1_ (pt_not_ (xtch .LtE .LtE xint (xb C run_len (by decide +kernel) rfl (xa (xv 0 (by first | exact Or.inl rfl | exact Or.inr (Or.inl rfl) | exact Or.inr (Or.inr rfl))) pa_nil_)) xint))))) (pss_cons_ (ps_ret_ xbl) pss_nil_) pss_nil_) (pss_cons_ (xfor (own := [1, 2]) (passes_of rfl) (xen C (by decide +kernel) (xa (xv 0 (by first | exact Or.inl rfl | exact Or.inr (Or.inl rfl) | exact Or.inr (Or.inr rfl))) pa_nil_)) (xpt 2 (pgs_cons_ (xpn 1 (by first | exact Or.inl rfl | exact Or.inr rfl) (hd := sc__law_are_marks.nd)) (pgs_cons_ (xpn 2 (by first | exact Or.inl rfl | exact Or.inr rfl) (hd := sc__law_are_marks.nd)) pgs_nil_ rfl) rfl)) (pss_cons_ (ps_if_ (PW.pt (pw_or_ (pt_not_ (xtr (xb C (run_isa C.fa) (by decide +kernel) rfl (xa (xv 2 (by first | exact Or.inl rfl | exact Or.inr (Or.inl rfl) | exact Or.inr (Or.inr rfl))) (xa (xclT C (by decide +kernel) rfl) pa_nil_))))) (pw_or_ (xtr (xb C (run_isa C.fa) (by decide +kernel) rfl (xa (xv 2 (by first | exact Or.inl rfl | exact Or.inr (Or.inl rfl) | exact Or.inr (Or.inr rfl))) (xa (xclT C (by decide +kernel) rfl) pa_nil_)))) (pw_or1_ (pt_not_ (xtch .LtE .LtE xint (xv 2 (by first | exact Or.inl rfl | exact Or.inr (Or.inl rfl) | exact Or.inr (Or.inr rfl))) (xv 1 (by first | exact Or.inl rfl | exact Or.inr (Or.inl rfl) | exact Or.inr (Or.inr rfl))))))))) (pss_cons_ (ps_ret_ xbl) pss_nil_) pss_nil_) pss_nil_)) (pss_cons_ (ps_ret_ (xb C (run_all rfl) (by decide +kernel) rfl (xa (xlc false [("_law_mark", 2)] (pi_seq_ (xv 0 (by first | exact Or.inl rfl | exact Or.inr (Or.inl rfl) | exact Or.inr (Or.inr rfl)))) (blkOk_by (N := n__law_are_marks) (sc := defScope s__law_are_marks) (by decide +kernel)) (fun _ _ _ _ _ => (xpn 2 (by first | exact Or.inl rfl | exact Or.inr rfl) (hd := sc__law_are_marks.nd))) (fun _ _ _ _ _ => (pts_nil_ rfl rfl)) (fun _ _ _ _ _ => (pe_cmp_ (reqs (C.to) takes_false) (xi (C.to) (xv 0 (by first | exact Or.inl rfl | exact Or.inr (Or.inl rfl) | exact Or.inr (Or.inr rfl))) (xv 2 (by first | exact Or.inl rfl | exact Or.inr (Or.inl rfl) | exact Or.inr (Or.inr rfl)))) (xv 2 (by first | exact Or.inl rfl | exact Or.inr (Or.inl rfl) | exact Or.inr (Or.inr rfl))) (by first | rfl | exact nomark _ | with_unfolding_all rfl))) (hd := sc__law_are_marks.nd)) pa_nil_))) pss_nil_)))
abbrev s__law_is_standing_right : Stmt := top 26
abbrev n__law_is_standing_right : List Str := ["_law_marks", "_law_one", "_law_count", "_law_left", "_law_far", "_law_value"]
theorem sc__law_is_standing_right : FnScope n__law_is_standing_right ["_law_marks"] (defScope s__law_is_standing_right) := ⟨rfl, rfl, rfl, by decide +kernel, rfl, by decide +kernel, by decide +kernel⟩
def b__law_is_standing_right (cf : CF) : SM := (sSeq (sAsg (aTup 2 (aCons (aName 1) (aCons (aName 2) aNil))) (gTup (gCons (gL (gNew cf "Standing" false) (gCons (gVar 0) gNil)) (gCons (gL (gR1 fLen) (gCons (gVar 0) gNil)) gNil)))) (sSeq (sIf (bOr (gAsB (g2 (bySelf (ownNe B cf) (gEq true)) (gL (gR1 fRepr) (gCons (gTup (gCons (g1 (gAttr B cf "marks") (gVar 1)) (gCons (g1 (gAttr B cf "wires") (gVar 1)) gNil))) gNil)) (gL (gR1 fRepr) (gCons (gTup (gCons (gVar 0) (gCons (g2 (gBin false .Sub) (gVar 2) (gC (.int 2))) gNil))) gNil)))) (gAsB (g2 (bySelf (ownNe B cf) (gEq true)) (gL (gR1 fRepr) (gCons (g1 (gAttr B cf "is_short") (gVar 1)) gNil)) (gL (gR1 fRepr) (gCons (g2 (bySelf (ownEq B cf) (gEq false)) (g2 gIdx (gVar 0) (g1 gNeg (gC (.int 1)))) (g2 gIdx (gVar 0) (g1 gNeg (gC (.int 2))))) gNil))))) (sSeq (sRet (gC (.bl false))) sNext) sNext) (sSeq (sFor (iRng1 (gCons (gVar 2) gNil)) (aName 3) (sSeq (sIf (bNot (gTru (gL (gR1 fAll) (gCons (gLc false (iRng1 (gCons (gVar 2) gNil)) (aName 4) cYes (g2 (bySelf (ownEq B cf) (gEq false)) (gL (gR1 fRepr) (gCons (g2 (byThat (ownIn B cf) (gIn false)) (gTup (gCons (gVar 3) (gCons (gVar 4) gNil))) (gVar 1)) gNil)) (gL (gR1 fRepr) (gCons (g2 (bySelf (ownEq B cf) (gEq false)) (g2 gIdx (gVar 0) (gVar 3)) (g2 gIdx (gVar 0) (gVar 4))) gNil))) [4]) gNil)))) (sSeq (sRet (gC (.bl false))) sNext) sNext) sNext)) (sSeq (sFor (iSeq (gTup (gCons (gTup (gCons (gC (.int 0)) (gCons (gVar 2) gNil))) (gCons (gTup (gCons (g1 gNeg (gC (.int 1))) (gCons (gC (.int 0)) gNil))) (gCons (gTup (gCons (gC (.int 0)) gNil)) (gCons (gLst false (gCons (gC (.int 0)) (gCons (gC (.int 0)) gNil))) (gCons (gTup (gCons (gC (.bl true)) (gCons (gC (.int 1)) gNil))) (gCons (gTup (gCons (gC (.int 0)) (gCons (gC (.int 0)) (gCons (gC (.int 0)) gNil)))) (gCons (gC (.non)) (gCons (gC (.int 0)) (gCons (gTup (gCons (gC (.str "0")) (gCons (gC (.int 0)) gNil))) gNil))))))))))) (aName 5) (sSeq (sIf (gAsB (g2 (bySelf (ownNe B cf) (gEq true)) (gL (gR1 fRepr) (gCons (g2 (byThat (ownIn B cf) (gIn false)) (gVar 5) (gVar 1)) gNil)) (gC (.str "False")))) (sSeq (sRet (gC (.bl false))) sNext) sNext) sNext)) (sSeq (sRet (vAnd (g2 (bySelf (ownEq B cf) (gEq false)) (gVar 1) (gL (gNew cf "Standing" false) (gCons (gVar 0) gNil))) (vAnd (vNot (g2 (bySelf (ownEq B cf) (gEq false)) (gVar 1) (gVar 0))) (vAnd (g2 (bySelf (ownNe B cf) (gEq true)) (gVar 1) (gC (.non))) (vNot (g2 (bySelf (ownNe B cf) (gEq true)) (gVar 1) (gL (gNew cf "Standing" false) (gCons (gVar 0) gNil)))))))) sNext)))))
def r__law_is_standing_right (cf : CF) : List RV → M RV := runDef false 1 6 (b__law_is_standing_right cf)
theorem d__law_is_standing_right (E0 : En) {f : Addr} {fd : FuncData} (F : FunD E0.K "_law_is_standing_right" "_law_is_standing_right" (defArgs s__law_is_standing_right) (defBody s__law_is_standing_right) (defScope s__law_is_standing_right) [] [] f fd) {cf : CF} {k : Nat} (D : DefsE E0 B k cf) (A0 : All E0 B frees) : FI E0.P E0.w E0.K E0.mg E0.base E0.tb (k + 5) f (r__law_is_standing_right cf) :=
  def_ok (tb := E0.tb) F sc__law_is_standing_right (F.bindsN fun _ _ _ _ _ _ us hl => match us, hl with | [_], _ => rfl) fun cdv A outer s H E hg hr =>
    have C : Ctx (cxOf (L2.CX E0.P E0.w) E0.P E0.w E0.K E0.mg E0.base n__law_is_standing_right "_law_is_standing_right" (defScope s__law_is_standing_right) f cdv A outer s H E) E0.tb B frees E0.er k cf := A0.ctx D hg (hr.mono (by omega))
    have tk : Takes (cxOf (L2.CX E0.P E0.w) E0.P E0.w E0.K E0.mg E0.base n__law_is_standing_right "_law_is_standing_right" (defScope s__law_is_standing_right) f cdv A outer s H E) (fun c d _ H => E c d H) := takes_of rfl rfl rfl rfl
    (pss_cons_ (xasg (own := [1, 2]) (pe_tup_ (xa (xn C tk false (by decide +kernel) (xa (xv 0 (by first | exact Or.inl rfl | exact Or.inr (Or.inl rfl) | exact Or.inr (Or.inr rfl))) pa_nil_)) (xa (xb C run_len (by decide +kernel) rfl (xa (xv 0 (by first | exact Or.inl rfl | exact Or.inr (Or.inl rfl) | exact Or.inr (Or.inr rfl))) pa_nil_)) pa_nil_))) (xpt 2 (pgs_cons_ (xpn 1 (by first | exact Or.inl rfl | exact Or.inr rfl) (hd := sc__law_is_standing_right.nd)) (pgs_cons_ (xpn 2 (by first | exact Or.inl rfl | exact Or.inr rfl) (hd := sc__law_is_standing_right.nd)) pgs_nil_ rfl) rfl))) (pss_cons_ (ps_if_ (PW.pt (pw_or_ (pt_cmp_ (rnes C tk) (xb C (run_repr C.gd C.u61) (by decide +kernel) rfl (xa (pe_tup_ (xa (xf C (xv 1 (by first | exact Or.inl rfl | exact Or.inr (Or.inl rfl) | exact Or.inr (Or.inr rfl)))) (xa (xf C (xv 1 (by first | exact Or.inl rfl | exact Or.inr (Or.inl rfl) | exact Or.inr (Or.inr rfl)))) pa_nil_))) pa_nil_)) (xb C (run_repr C.gd C.u61) (by decide +kernel) rfl (xa (pe_tup_ (xa (xv 0 (by first | exact Or.inl rfl | exact Or.inr (Or.inl rfl) | exact Or.inr (Or.inr rfl))) (xa (xo false .Sub (xv 2 (by first | exact Or.inl rfl | exact Or.inr (Or.inl rfl) | exact Or.inr (Or.inr rfl))) xint) pa_nil_))) pa_nil_)) (by first | rfl | exact nomark _ | with_unfolding_all rfl)) (pw_or1_ (pt_cmp_ (rnes C tk) (xb C (run_repr C.gd C.u61) (by decide +kernel) rfl (xa (xf C (xv 1 (by first | exact Or.inl rfl | exact Or.inr (Or.inl rfl) | exact Or.inr (Or.inr rfl)))) pa_nil_)) (xb C (run_repr C.gd C.u61) (by decide +kernel) rfl (xa (pe_cmp_ (reqs C tk) (xi C (xv 0 (by first | exact Or.inl rfl | exact Or.inr (Or.inl rfl) | exact Or.inr (Or.inr rfl))) (xneg xint)) (xi C (xv 0 (by first | exact Or.inl rfl | exact Or.inr (Or.inl rfl) | exact Or.inr (Or.inr rfl))) (xneg xint)) (by first | rfl | exact nomark _ | with_unfolding_all rfl)) pa_nil_)) (by first | rfl | exact nomark _ | with_unfolding_all rfl))))) (pss_cons_ (ps_ret_ xbl) pss_nil_) pss_nil_) (pss_cons_ (xfor (own := [3]) (passes_of rfl) (xrg1 C (by decide +kernel) (xa (xv 2 (by first | exact Or.inl rfl | exact Or.inr (Or.inl rfl) | exact Or.inr (Or.inr rfl))) pa_nil_)) (xpn 3 (by first | exact Or.inl rfl | exact Or.inr rfl) (hd := sc__law_is_standing_right.nd)) (pss_cons_ (ps_if_ (pt_not_ (xtr (xb C (run_all rfl) (by decide +kernel) rfl (xa (xlc false [("_law_far", 4)] (xrg1 C (by decide +kernel) (xa (xv 2 (by first | exact Or.inl rfl | exact Or.inr (Or.inl rfl) | exact Or.inr (Or.inr rfl))) pa_nil_)) (blkOk_by (N := n__law_is_standing_right) (sc := defScope s__law_is_standing_right) (by decide +kernel)) (fun _ _ _ _ _ => (xpn 4 (by first | exact Or.inl rfl | exact Or.inr rfl) (hd := sc__law_is_standing_right.nd))) (fun _ _ _ _ _ => (pts_nil_ rfl rfl)) (fun _ _ _ _ _ => (pe_cmp_ (reqs (C.to) takes_false) (xb (C.to) (run_repr (C.to).gd (C.to).u61) (by decide +kernel) rfl (xa (pe_cmp_ (rins (C.to) takes_false) (pe_tup_ (xa (xv 3 (by first | exact Or.inl rfl | exact Or.inr (Or.inl rfl) | exact Or.inr (Or.inr rfl))) (xa (xv 4 (by first | exact Or.inl rfl | exact Or.inr (Or.inl rfl) | exact Or.inr (Or.inr rfl))) pa_nil_))) (xv 1 (by first | exact Or.inl rfl | exact Or.inr (Or.inl rfl) | exact Or.inr (Or.inr rfl))) (by first | rfl | exact nomark _ | with_unfolding_all rfl)) pa_nil_)) (xb (C.to) (run_repr (C.to).gd (C.to).u61) (by decide +kernel) rfl (xa (pe_cmp_ (reqs (C.to) takes_false) (xi (C.to) (xv 0 (by first | exact Or.inl rfl | exact Or.inr (Or.inl rfl) | exact Or.inr (Or.inr rfl))) (xv 3 (by first | exact Or.inl rfl | exact Or.inr (Or.inl rfl) | exact Or.inr (Or.inr rfl)))) (xi (C.to) (xv 0 (by first | exact Or.inl rfl | exact Or.inr (Or.inl rfl) | exact Or.inr (Or.inr rfl))) (xv 4 (by first | exact Or.inl rfl | exact Or.inr (Or.inl rfl) | exact Or.inr (Or.inr rfl)))) (by first | rfl | exact nomark _ | with_unfolding_all rfl)) pa_nil_)) (by first | rfl | exact nomark _ | with_unfolding_all rfl))) (hd := sc__law_is_standing_right.nd)) pa_nil_)))) (pss_cons_ (ps_ret_ xbl) pss_nil_) pss_nil_) pss_nil_)) (pss_cons_ (xfor (own := [5]) (passes_of rfl) (pi_seq_ (pe_tup_ (xa (pe_tup_ (xa xint (xa (xv 2 (by first | exact Or.inl rfl | exact Or.inr (Or.inl rfl) | exact Or.inr (Or.inr rfl))) pa_nil_))) (xa (pe_tup_ (xa (xneg xint) (xa xint pa_nil_))) (xa (pe_tup_ (xa xint pa_nil_)) (xa (pe_lst_ (hp := false) (xa xint (xa xint pa_nil_))) (xa (pe_tup_ (xa xbl (xa xint pa_nil_))) (xa (pe_tup_ (xa xint (xa xint (xa xint pa_nil_)))) (xa xnon (xa xint (xa (pe_tup_ (xa xstr (xa xint pa_nil_))) pa_nil_))))))))))) (xpn 5 (by first | exact Or.inl rfl | exact Or.inr rfl) (hd := sc__law_is_standing_right.nd)) (pss_cons_ (ps_if_ (pt_cmp_ (rnes C tk) (xb C (run_repr C.gd C.u61) (by decide +kernel) rfl (xa (pe_cmp_ (rins C tk) (xv 5 (by first | exact Or.inl rfl | exact Or.inr (Or.inl rfl) | exact Or.inr (Or.inr rfl))) (xv 1 (by first | exact Or.inl rfl | exact Or.inr (Or.inl rfl) | exact Or.inr (Or.inr rfl))) (by first | rfl | exact nomark _ | with_unfolding_all rfl)) pa_nil_)) xstr (by first | rfl | exact nomark _ | with_unfolding_all rfl)) (pss_cons_ (ps_ret_ xbl) pss_nil_) pss_nil_) pss_nil_)) (pss_cons_ (ps_ret_ (pe_and_ (pe_cmp_ (reqs C tk) (xv 1 (by first | exact Or.inl rfl | exact Or.inr (Or.inl rfl) | exact Or.inr (Or.inr rfl))) (xn C tk false (by decide +kernel) (xa (xv 0 (by first | exact Or.inl rfl | exact Or.inr (Or.inl rfl) | exact Or.inr (Or.inr rfl))) pa_nil_)) (by first | rfl | exact nomark _ | with_unfolding_all rfl)) (pe_and_ (pe_not_ (pe_cmp_ (reqs C tk) (xv 1 (by first | exact Or.inl rfl | exact Or.inr (Or.inl rfl) | exact Or.inr (Or.inr rfl))) (xv 0 (by first | exact Or.inl rfl | exact Or.inr (Or.inl rfl) | exact Or.inr (Or.inr rfl))) (by first | rfl | exact nomark _ | with_unfolding_all rfl))) (pe_and_ (pe_cmp_ (rnes C tk) (xv 1 (by first | exact Or.inl rfl | exact Or.inr (Or.inl rfl) | exact Or.inr (Or.inr rfl))) xnon (by first | rfl | exact nomark _ | with_unfolding_all rfl)) (pe_one_ (pe_not_ (pe_cmp_ (rnes C tk) (xv 1 (by first | exact Or.inl rfl | exact Or.inr (Or.inl rfl) | exact Or.inr (Or.inr rfl))) (xn C tk false (by decide +kernel) (xa (xv 0 (by first | exact Or.inl rfl | exact Or.inr (Or.inl rfl) | exact Or.inr (Or.inr rfl))) pa_nil_)) (by first | rfl | exact nomark _ | with_unfolding_all rfl)))))))) pss_nil_)))))
abbrev s__law_is_taken_right : Stmt := top 27
abbrev n__law_is_taken_right : List Str := ["_law_value", "_law_caught", "_law_one"]
theorem sc__law_is_taken_right : FnScope n__law_is_taken_right ["_law_value"] (defScope s__law_is_taken_right) := ⟨rfl, rfl, rfl, by decide +kernel, rfl, by decide +kernel, by decide +kernel⟩
def b__law_is_taken_right (cf : CF) : SM := (sSeq (sAsg (aTup 2 (aCons (aName 1) (aCons (aName 2) aNil))) (gTold B "WireError" (gL (gNew cf "Standing" false) (gCons (gVar 0) gNil)))) (sSeq (sIf (gTru (gL (cf (.g "_law_are_marks")) (gCons (gVar 0) gNil))) (sSeq (sRet (vAnd (g2 (gIs false) (gVar 1) (gC (.non))) (g2 (bySelf (ownEq B cf) (gEq false)) (gL (gR1 fRepr) (gCons (g1 (gAttr B cf "marks") (gVar 2)) gNil)) (gL (gR1 fRepr) (gCons (gVar 0) gNil))))) sNext) sNext) (sSeq (sRet (vAnd (gL (gR2 (fIs B)) (gCons (gVar 1) (gCons (gC (.cl (.own "BadMarks"))) gNil))) (g2 (bySelf (ownEq B cf) (gEq false)) (gL (gR1 fRepr) (gCons (g1 (gAttr B cf "value") (gVar 1)) gNil)) (gL (gR1 fRepr) (gCons (gVar 0) gNil))))) sNext)))
def r__law_is_taken_right (cf : CF) : List RV → M RV := runDef false 1 3 (b__law_is_taken_right cf)
theorem d__law_is_taken_right (E0 : En) {f : Addr} {fd : FuncData} (F : FunD E0.K "_law_is_taken_right" "_law_is_taken_right" (defArgs s__law_is_taken_right) (defBody s__law_is_taken_right) (defScope s__law_is_taken_right) [] [] f fd) {cf : CF} {k : Nat} (D : DefsE E0 B k cf) (A0 : All E0 B frees) (hc : fd.code = .ref (He.cT E0.K ("_law_is_taken_right", none)).1) (TL : Tolds E0 "WireError" "_law_told" "_law_look" sTold nTold (He.cT E0.K ("_law_is_taken_right", none)) (envOfC "_law_is_taken_right" (defScope s__law_is_taken_right) 0 0 .none).qual) : FI E0.P E0.w E0.K E0.mg E0.base E0.tb (k + 5) f (r__law_is_taken_right cf) :=
  def_okC (tb := E0.tb) F hc sc__law_is_taken_right (F.bindsN fun _ _ _ _ _ _ us hl => match us, hl with | [_], _ => rfl) fun A outer s H E hg hr =>
    have C : Ctx (cxOf (L2.CX E0.P E0.w) E0.P E0.w E0.K E0.mg E0.base n__law_is_taken_right "_law_is_taken_right" (defScope s__law_is_taken_right) f (.ref (He.cT E0.K ("_law_is_taken_right", none)).1) A outer s H E) E0.tb B frees E0.er k cf := A0.ctx D hg (hr.mono (by omega))
    have tk : Takes (cxOf (L2.CX E0.P E0.w) E0.P E0.w E0.K E0.mg E0.base n__law_is_taken_right "_law_is_taken_right" (defScope s__law_is_taken_right) f (.ref (He.cT E0.K ("_law_is_taken_right", none)).1) A outer s H E) (fun c d _ H => E c d H) := takes_of rfl rfl rfl rfl
    (pss_cons_ (xasg (own := [1, 2]) (told_ TL D A0 C hr (⟨rfl, rfl, rfl, by decide +kernel, by decide +kernel⟩ : LamS (defScope s__law_is_taken_right) _) (fun A outer s H E2 f c2 hr2 hg2 => (xn (A0.ctx D hg2 hr2) (takes_of rfl rfl rfl rfl) false (by decide +kernel) (xa (xv 0 (by first | exact Or.inl rfl | exact Or.inr (Or.inl rfl) | exact Or.inr (Or.inr rfl))) pa_nil_)))) (xpt 2 (pgs_cons_ (xpn 1 (by first | exact Or.inl rfl | exact Or.inr rfl) (hd := sc__law_is_taken_right.nd)) (pgs_cons_ (xpn 2 (by first | exact Or.inl rfl | exact Or.inr rfl) (hd := sc__law_is_taken_right.nd)) pgs_nil_ rfl) rfl))) (pss_cons_ (ps_if_ (xtr (xg C tk (by decide +kernel) (xa (xv 0 (by first | exact Or.inl rfl | exact Or.inr (Or.inl rfl) | exact Or.inr (Or.inr rfl))) pa_nil_))) (pss_cons_ (ps_ret_ (pe_and_ (pe_cmp_ run_is (xv 1 (by first | exact Or.inl rfl | exact Or.inr (Or.inl rfl) | exact Or.inr (Or.inr rfl))) xnon (by first | rfl | exact nomark _ | with_unfolding_all rfl)) (pe_one_ (pe_cmp_ (reqs C tk) (xb C (run_repr C.gd C.u61) (by decide +kernel) rfl (xa (xf C (xv 2 (by first | exact Or.inl rfl | exact Or.inr (Or.inl rfl) | exact Or.inr (Or.inr rfl)))) pa_nil_)) (xb C (run_repr C.gd C.u61) (by decide +kernel) rfl (xa (xv 0 (by first | exact Or.inl rfl | exact Or.inr (Or.inl rfl) | exact Or.inr (Or.inr rfl))) pa_nil_)) (by first | rfl | exact nomark _ | with_unfolding_all rfl))))) pss_nil_) pss_nil_) (pss_cons_ (ps_ret_ (pe_and_ (xb C (run_isa C.fa) (by decide +kernel) rfl (xa (xv 1 (by first | exact Or.inl rfl | exact Or.inr (Or.inl rfl) | exact Or.inr (Or.inr rfl))) (xa (xclE C (by decide +kernel)) pa_nil_))) (pe_one_ (pe_cmp_ (reqs C tk) (xb C (run_repr C.gd C.u61) (by decide +kernel) rfl (xa (xf C (xv 1 (by first | exact Or.inl rfl | exact Or.inr (Or.inl rfl) | exact Or.inr (Or.inr rfl)))) pa_nil_)) (xb C (run_repr C.gd C.u61) (by decide +kernel) rfl (xa (xv 0 (by first | exact Or.inl rfl | exact Or.inr (Or.inl rfl) | exact Or.inr (Or.inr rfl))) pa_nil_)) (by first | rfl | exact nomark _ | with_unfolding_all rfl))))) pss_nil_)))
abbrev s__law_is_bare_right : Stmt := top 28
abbrev n__law_is_bare_right : List Str := ["_law_value", "_law_caught", "_law_one"]
theorem sc__law_is_bare_right : FnScope n__law_is_bare_right ["_law_value"] (defScope s__law_is_bare_right) := ⟨rfl, rfl, rfl, by decide +kernel, rfl, by decide +kernel, by decide +kernel⟩
def b__law_is_bare_right (cf : CF) : SM := (sSeq (sAsg (aTup 2 (aCons (aName 1) (aCons (aName 2) aNil))) (gTold B "WireError" (gL (cf (.m "Standing" "bare")) (gCons (gVar 0) gNil)))) (sSeq (sIf (bAnd (gTru (gL (gR2 (fIs B)) (gCons (gVar 0) (gCons (gC (.cl (.ty "int"))) gNil)))) (bAnd (bNot (gTru (gL (gR2 (fIs B)) (gCons (gVar 0) (gCons (gC (.cl (.ty "bool"))) gNil))))) (gAsB (gCh (gOrd .LtE) (gOrd .LtE) (gC (.int 1)) (gVar 0) (gC (.int 4)))))) (sSeq (sRet (vAnd (g2 (gIs false) (gVar 1) (gC (.non))) (g2 (bySelf (ownEq B cf) (gEq false)) (g1 (gAttr B cf "marks") (gVar 2)) (gL gTupT (gCons (gRg1 false .lst (g2 (gBin false .Add) (gVar 0) (gC (.int 2)))) gNil))))) sNext) sNext) (sSeq (sRet (vAnd (gL (gR2 (fIs B)) (gCons (gVar 1) (gCons (gC (.cl (.own "BadWires"))) gNil))) (g2 (bySelf (ownEq B cf) (gEq false)) (gL (gR1 fRepr) (gCons (g1 (gAttr B cf "value") (gVar 1)) gNil)) (gL (gR1 fRepr) (gCons (gVar 0) gNil))))) sNext)))
def r__law_is_bare_right (cf : CF) : List RV → M RV := runDef false 1 3 (b__law_is_bare_right cf)
theorem d__law_is_bare_right (E0 : En) {f : Addr} {fd : FuncData} (F : FunD E0.K "_law_is_bare_right" "_law_is_bare_right" (defArgs s__law_is_bare_right) (defBody s__law_is_bare_right) (defScope s__law_is_bare_right) [] [] f fd) {cf : CF} {k : Nat} (D : DefsE E0 B k cf) (A0 : All E0 B frees) (hc : fd.code = .ref (He.cT E0.K ("_law_is_bare_right", none)).1) (TL : Tolds E0 "WireError" "_law_told" "_law_look" sTold nTold (He.cT E0.K ("_law_is_bare_right", none)) (envOfC "_law_is_bare_right" (defScope s__law_is_bare_right) 0 0 .none).qual) : FI E0.P E0.w E0.K E0.mg E0.base E0.tb (k + 5) f (r__law_is_bare_right cf) :=
  def_okC (tb := E0.tb) F hc sc__law_is_bare_right (F.bindsN fun _ _ _ _ _ _ us hl => match us, hl with | [_], _ => rfl) fun A outer s H E hg hr =>
    have C : Ctx (cxOf (L2.CX E0.P E0.w) E0.P E0.w E0.K E0.mg E0.base n__law_is_bare_right "_law_is_bare_right" (defScope s__law_is_bare_right) f (.ref (He.cT E0.K ("_law_is_bare_right", none)).1) A outer s H E) E0.tb B frees E0.er k cf := A0.ctx D hg (hr.mono (by omega))
    have tk : Takes (cxOf (L2.CX E0.P E0.w) E0.P E0.w E0.K E0.mg E0.base n__law_is_bare_right "_law_is_bare_right" (defScope s__law_is_bare_right) f (.ref (He.cT E0.K ("_law_is_bare_right", none)).1) A outer s H E) (fun c d _ H => E c d H) := takes_of rfl rfl rfl rfl
    (pss_cons_ (xasg (own := [1, 2]) (told_ TL D A0 C hr (⟨rfl, rfl, rfl, by decide +kernel, by decide +kernel⟩ : LamS (defScope s__law_is_bare_right) _) (fun A outer s H E2 f c2 hr2 hg2 => (xst (A0.ctx D hg2 hr2) (takes_of rfl rfl rfl rfl) (by decide +kernel) (by decide +kernel) (xa (xv 0 (by first | exact Or.inl rfl | exact Or.inr (Or.inl rfl) | exact Or.inr (Or.inr rfl))) pa_nil_)))) (xpt 2 (pgs_cons_ (xpn 1 (by first | exact Or.inl rfl | exact Or.inr rfl) (hd := sc__law_is_bare_right.nd)) (pgs_cons_ (xpn 2 (by first | exact Or.inl rfl | exact Or.inr rfl) (hd := sc__law_is_bare_right.nd)) pgs_nil_ rfl) rfl))) (pss_cons_ (ps_if_ (PW.pt (pw_and_ (xtr (xb C (run_isa C.fa) (by decide +kernel) rfl (xa (xv 0 (by first | exact Or.inl rfl | exact Or.inr (Or.inl rfl) | exact Or.inr (Or.inr rfl))) (xa (xclT C (by decide +kernel) rfl) pa_nil_)))) (pw_and_ (pt_not_ (xtr (xb C (run_isa C.fa) (by decide +kernel) rfl (xa (xv 0 (by first | exact Or.inl rfl | exact Or.inr (Or.inl rfl) | exact Or.inr (Or.inr rfl))) (xa (xclT C (by decide +kernel) rfl) pa_nil_))))) (pw_and1_ (xtch .LtE .LtE xint (xv 0 (by first | exact Or.inl rfl | exact Or.inr (Or.inl rfl) | exact Or.inr (Or.inr rfl))) xint))))) (pss_cons_ (ps_ret_ (pe_and_ (pe_cmp_ run_is (xv 1 (by first | exact Or.inl rfl | exact Or.inr (Or.inl rfl) | exact Or.inr (Or.inr rfl))) xnon (by first | rfl | exact nomark _ | with_unfolding_all rfl)) (pe_one_ (pe_cmp_ (reqs C tk) (xf C (xv 2 (by first | exact Or.inl rfl | exact Or.inr (Or.inl rfl) | exact Or.inr (Or.inr rfl)))) (xt C run_tup (by decide +kernel) rfl (xa (xlR1 (hp := false) C (by decide +kernel) (by decide +kernel) (xo false .Add (xv 0 (by first | exact Or.inl rfl | exact Or.inr (Or.inl rfl) | exact Or.inr (Or.inr rfl))) xint)) pa_nil_)) (by first | rfl | exact nomark _ | with_unfolding_all rfl))))) pss_nil_) pss_nil_) (pss_cons_ (ps_ret_ (pe_and_ (xb C (run_isa C.fa) (by decide +kernel) rfl (xa (xv 1 (by first | exact Or.inl rfl | exact Or.inr (Or.inl rfl) | exact Or.inr (Or.inr rfl))) (xa (xclE C (by decide +kernel)) pa_nil_))) (pe_one_ (pe_cmp_ (reqs C tk) (xb C (run_repr C.gd C.u61) (by decide +kernel) rfl (xa (xf C (xv 1 (by first | exact Or.inl rfl | exact Or.inr (Or.inl rfl) | exact Or.inr (Or.inr rfl)))) pa_nil_)) (xb C (run_repr C.gd C.u61) (by decide +kernel) rfl (xa (xv 0 (by first | exact Or.inl rfl | exact Or.inr (Or.inl rfl) | exact Or.inr (Or.inr rfl))) pa_nil_)) (by first | rfl | exact nomark _ | with_unfolding_all rfl))))) pss_nil_)))
abbrev s__law_right : Stmt := top 29
abbrev n__law_right : List Str := ["_law_pot_here", "_law_marks", "_law_other", "_law_some", "_law_lap", "_law_value"]
theorem sc__law_right : FnScope n__law_right ["_law_pot_here"] (defScope s__law_right) := ⟨rfl, rfl, rfl, by decide +kernel, rfl, by decide +kernel, by decide +kernel⟩
def b__law_right (cf : CF) : SM := (sSeq (sAsg (aTup 2 (aCons (aName 1) (aCons (aName 2) aNil))) (gTup (gCons (gL (cf (.g "_law_drawn_marks")) (gCons (gVar 0) (gCons (g2 (gBin false .Add) (gC (.int 3)) (gL (cf (.g "_law_take")) (gCons (gVar 0) (gCons (gC (.int 4)) gNil)))) gNil))) (gCons (gL (cf (.g "_law_drawn_marks")) (gCons (gVar 0) (gCons (g2 (gBin false .Add) (gC (.int 3)) (gL (cf (.g "_law_take")) (gCons (gVar 0) (gCons (gC (.int 4)) gNil)))) gNil))) gNil)))) (sSeq (sIf (bOr (bNot (gTru (gL (cf (.g "_law_is_standing_right")) (gCons (gVar 1) gNil)))) (gAsB (g2 (bySelf (ownNe B cf) (gEq true)) (g2 (bySelf (ownEq B cf) (gEq false)) (gL (gNew cf "Standing" false) (gCons (gVar 1) gNil)) (gL (gNew cf "Standing" false) (gCons (gVar 2) gNil))) (g2 (bySelf (ownEq B cf) (gEq false)) (gVar 1) (gVar 2))))) (sSeq (sRet (gC (.bl false))) sNext) sNext) (sSeq (sAsg (aName 3) (gLst true (gCons (gL (gList false) (gCons (gVar 1) gNil)) (gCons (g2 (gBin false .Add) (gVar 1) (gTup (gCons (gL (gR1 fLen) (gCons (gVar 1) gNil)) gNil))) (gCons (g3 (gSlc false) (gVar 1) (gPart none) (gPart (some (g1 gNeg (gC (.int 1)))))) (gCons (g1 (gRev false) (gVar 1)) (gCons (gTup (gCons (gC (.int 0)) (gCons (gC (.int 1)) gNil))) (gCons (gTup (gCons (gC (.int 0)) (gCons (gC (.int 0)) (gCons (gC (.int 1)) gNil)))) (gCons (gTup (gCons (gC (.int 0)) (gCons (gC (.int 1)) (gCons (gC (.int 3)) gNil)))) gNil))))))))) (sSeq (sAsg (aName 3) (g2 (gBin true .Add) (gVar 3) (gLst false (gCons (gTup (gCons (gC (.int 0)) (gCons (gC (.int 0)) (gCons (gC (.int 0)) (gCons (gC (.int 0)) (gCons (gC (.int 0)) (gCons (gC (.int 0)) (gCons (gC (.int 0)) gNil)))))))) (gCons (gTup (gCons (gC (.int 0)) (gCons (gC (.bl true)) (gCons (gC (.int 2)) gNil)))) (gCons (gTup (gCons (gC (.int 0)) (gCons (gC (.int 0)) (gCons (g1 gNeg (gC (.int 1))) gNil)))) (gCons (gL (cf (.g "_law_odd")) (gCons (gVar 0) gNil)) (gCons (gTup gNil) (gCons (gC (.non)) (gCons (gTup (gCons (gC (.int 1)) (gCons (gC (.int 1)) (gCons (gC (.int 1)) gNil)))) gNil)))))))))) (sSeq (sEx (gMet .l mExtend (gVar 3) (gCons (gLc false (iRng1 (gCons (gC (.int 8)) gNil)) (aName 4) cYes (gL (cf (.g "_law_bent_value")) (gCons (gVar 0) (gCons (gVar 1) gNil))) [4]) gNil))) (sSeq (sIf (bNot (gTru (gL (gR1 fAll) (gCons (gLc false (iSeq (gVar 3)) (aName 5) cYes (gL (cf (.g "_law_is_taken_right")) (gCons (gVar 5) gNil)) [5]) gNil)))) (sSeq (sRet (gC (.bl false))) sNext) sNext) (sSeq (sRet (gL (gR1 fAll) (gCons (gLc false (iSeq (gTup (gCons (gC (.int 1)) (gCons (gC (.int 2)) (gCons (gC (.int 3)) (gCons (gC (.int 4)) (gCons (gC (.int 0)) (gCons (gC (.int 5)) (gCons (gC (.bl true)) (gCons (gC (.non)) (gCons (gC (.str "1")) (gCons (gTup (gCons (gC (.int 1)) gNil)) (gCons (gL (cf (.g "_law_odd")) (gCons (gVar 0) gNil)) gNil))))))))))))) (aName 5) cYes (gL (cf (.g "_law_is_bare_right")) (gCons (gVar 5) gNil)) [5]) gNil))) sNext)))))))
def r__law_right (cf : CF) : List RV → M RV := runDef false 1 6 (b__law_right cf)
theorem d__law_right (E0 : En) {f : Addr} {fd : FuncData} (F : FunD E0.K "_law_right" "_law_right" (defArgs s__law_right) (defBody s__law_right) (defScope s__law_right) [] [] f fd) {cf : CF} {k : Nat} (D : DefsE E0 B k cf) (A0 : All E0 B frees) : FI E0.P E0.w E0.K E0.mg E0.base E0.tb (k + 5) f (r__law_right cf) :=
  def_ok (tb := E0.tb) F sc__law_right (F.bindsN fun _ _ _ _ _ _ us hl => match us, hl with | [_], _ => rfl) fun cdv A outer s H E hg hr =>
    have C : Ctx (cxOf (L2.CX E0.P E0.w) E0.P E0.w E0.K E0.mg E0.base n__law_right "_law_right" (defScope s__law_right) f cdv A outer s H E) E0.tb B frees E0.er k cf := A0.ctx D hg (hr.mono (by omega))
    have tk : Takes (cxOf (L2.CX E0.P E0.w) E0.P E0.w E0.K E0.mg E0.base n__law_right "_law_right" (defScope s__law_right) f cdv A outer s H E) (fun c d _ H => E c d H) := takes_of rfl rfl rfl rfl
    (pss_cons_ (xasg (own := [1, 2]) (pe_tup_ (xa (xg C tk (by decide +kernel) (xa (xv 0 (by first | exact Or.inl rfl | exact Or.inr (Or.inl rfl) | exact Or.inr (Or.inr rfl))) (xa (xo false .Add xint (xg C tk (by decide +kernel) (xa (xv 0 (by first | exact Or.inl rfl | exact Or.inr (Or.inl rfl) | exact Or.inr (Or.inr rfl))) (xa xint pa_nil_)))) pa_nil_))) (xa (xg C tk (by decide +kernel) (xa (xv 0 (by first | exact Or.inl rfl | exact Or.inr (Or.inl rfl) | exact Or.inr (Or.inr rfl))) (xa (xo false .Add xint (xg C tk (by decide +kernel) (xa (xv 0 (by first | exact Or.inl rfl | exact Or.inr (Or.inl rfl) | exact Or.inr (Or.inr rfl))) (xa xint pa_nil_)))) pa_nil_))) pa_nil_))) (xpt 2 (pgs_cons_ (xpn 1 (by first | exact Or.inl rfl | exact Or.inr rfl) (hd := sc__law_right.nd)) (pgs_cons_ (xpn 2 (by first | exact Or.inl rfl | exact Or.inr rfl) (hd := sc__law_right.nd)) pgs_nil_ rfl) rfl))) (pss_cons_ (ps_if_ (PW.pt (pw_or_ (pt_not_ (xtr (xg C tk (by decide +kernel) (xa (xv 1 (by first | exact Or.inl rfl | exact Or.inr (Or.inl rfl) | exact Or.inr (Or.inr rfl))) pa_nil_)))) (pw_or1_ (pt_cmp_ (rnes C tk) (pe_cmp_ (reqs C tk) (xn C tk false (by decide +kernel) (xa (xv 1 (by first | exact Or.inl rfl | exact Or.inr (Or.inl rfl) | exact Or.inr (Or.inr rfl))) pa_nil_)) (xn C tk false (by decide +kernel) (xa (xv 2 (by first | exact Or.inl rfl | exact Or.inr (Or.inl rfl) | exact Or.inr (Or.inr rfl))) pa_nil_)) (by first | rfl | exact nomark _ | with_unfolding_all rfl)) (pe_cmp_ (reqs C tk) (xv 1 (by first | exact Or.inl rfl | exact Or.inr (Or.inl rfl) | exact Or.inr (Or.inr rfl))) (xv 2 (by first | exact Or.inl rfl | exact Or.inr (Or.inl rfl) | exact Or.inr (Or.inr rfl))) (by first | rfl | exact nomark _ | with_unfolding_all rfl)) (by first | rfl | exact nomark _ | with_unfolding_all rfl))))) (pss_cons_ (ps_ret_ xbl) pss_nil_) pss_nil_) (pss_cons_ (xset 3 (by first | exact Or.inl rfl | exact Or.inr rfl) (pe_lst_ (hp := true) (xa (xt C (run_list (hp := false) rfl) (by decide +kernel) rfl (xa (xv 1 (by first | exact Or.inl rfl | exact Or.inr (Or.inl rfl) | exact Or.inr (Or.inr rfl))) pa_nil_)) (xa (xo false .Add (xv 1 (by first | exact Or.inl rfl | exact Or.inr (Or.inl rfl) | exact Or.inr (Or.inr rfl))) (pe_tup_ (xa (xb C run_len (by decide +kernel) rfl (xa (xv 1 (by first | exact Or.inl rfl | exact Or.inr (Or.inl rfl) | exact Or.inr (Or.inr rfl))) pa_nil_)) pa_nil_))) (xa (pe_slc_ (hp := false) (xv 1 (by first | exact Or.inl rfl | exact Or.inr (Or.inl rfl) | exact Or.inr (Or.inr rfl))) po_none_ (po_some_ (xneg xint))) (xa (pe_rev_ (hp := false) (xv 1 (by first | exact Or.inl rfl | exact Or.inr (Or.inl rfl) | exact Or.inr (Or.inr rfl)))) (xa (pe_tup_ (xa xint (xa xint pa_nil_))) (xa (pe_tup_ (xa xint (xa xint (xa xint pa_nil_)))) (xa (pe_tup_ (xa xint (xa xint (xa xint pa_nil_)))) pa_nil_)))))))) (hd := sc__law_right.nd)) (pss_cons_ (xset 3 (by first | exact Or.inl rfl | exact Or.inr rfl) (xo true .Add (xv 3 (by first | exact Or.inl rfl | exact Or.inr (Or.inl rfl) | exact Or.inr (Or.inr rfl))) (pe_lst_ (hp := false) (xa (pe_tup_ (xa xint (xa xint (xa xint (xa xint (xa xint (xa xint (xa xint pa_nil_)))))))) (xa (pe_tup_ (xa xint (xa xbl (xa xint pa_nil_)))) (xa (pe_tup_ (xa xint (xa xint (xa (xneg xint) pa_nil_)))) (xa (xg C tk (by decide +kernel) (xa (xv 0 (by first | exact Or.inl rfl | exact Or.inr (Or.inl rfl) | exact Or.inr (Or.inr rfl))) pa_nil_)) (xa (pe_tup_ pa_nil_) (xa xnon (xa (pe_tup_ (xa xint (xa xint (xa xint pa_nil_)))) pa_nil_))))))))) (hd := sc__law_right.nd)) (pss_cons_ (xex (xq .l PySem.F.plainAttrs_list PySem.F.slot_list_extend PySem.F.type_list_extend run_extend (xv 3 (by first | exact Or.inl rfl | exact Or.inr (Or.inl rfl) | exact Or.inr (Or.inr rfl))) (xa (xlc false [("_law_lap", 4)] (xrg1 C (by decide +kernel) (xa xint pa_nil_)) (blkOk_by (N := n__law_right) (sc := defScope s__law_right) (by decide +kernel)) (fun _ _ _ _ _ => (xpn 4 (by first | exact Or.inl rfl | exact Or.inr rfl) (hd := sc__law_right.nd))) (fun _ _ _ _ _ => (pts_nil_ rfl rfl)) (fun _ _ _ _ _ => (xg (C.to) takes_false (by decide +kernel) (xa (xv 0 (by first | exact Or.inl rfl | exact Or.inr (Or.inl rfl) | exact Or.inr (Or.inr rfl))) (xa (xv 1 (by first | exact Or.inl rfl | exact Or.inr (Or.inl rfl) | exact Or.inr (Or.inr rfl))) pa_nil_)))) (hd := sc__law_right.nd)) pa_nil_))) (pss_cons_ (ps_if_ (pt_not_ (xtr (xb C (run_all rfl) (by decide +kernel) rfl (xa (xlc false [("_law_value", 5)] (pi_seq_ (xv 3 (by first | exact Or.inl rfl | exact Or.inr (Or.inl rfl) | exact Or.inr (Or.inr rfl)))) (blkOk_by (N := n__law_right) (sc := defScope s__law_right) (by decide +kernel)) (fun _ _ _ _ _ => (xpn 5 (by first | exact Or.inl rfl | exact Or.inr rfl) (hd := sc__law_right.nd))) (fun _ _ _ _ _ => (pts_nil_ rfl rfl)) (fun _ _ _ _ _ => (xg (C.to) takes_false (by decide +kernel) (xa (xv 5 (by first | exact Or.inl rfl | exact Or.inr (Or.inl rfl) | exact Or.inr (Or.inr rfl))) pa_nil_))) (hd := sc__law_right.nd)) pa_nil_)))) (pss_cons_ (ps_ret_ xbl) pss_nil_) pss_nil_) (pss_cons_ (ps_ret_ (xb C (run_all rfl) (by decide +kernel) rfl (xa (xlc false [("_law_value", 5)] (pi_seq_ (pe_tup_ (xa xint (xa xint (xa xint (xa xint (xa xint (xa xint (xa xbl (xa xnon (xa xstr (xa (pe_tup_ (xa xint pa_nil_)) (xa (xg C tk (by decide +kernel) (xa (xv 0 (by first | exact Or.inl rfl | exact Or.inr (Or.inl rfl) | exact Or.inr (Or.inr rfl))) pa_nil_)) pa_nil_))))))))))))) (blkOk_by (N := n__law_right) (sc := defScope s__law_right) (by decide +kernel)) (fun _ _ _ _ _ => (xpn 5 (by first | exact Or.inl rfl | exact Or.inr rfl) (hd := sc__law_right.nd))) (fun _ _ _ _ _ => (pts_nil_ rfl rfl)) (fun _ _ _ _ _ => (xg (C.to) takes_false (by decide +kernel) (xa (xv 5 (by first | exact Or.inl rfl | exact Or.inr (Or.inl rfl) | exact Or.inr (Or.inr rfl))) pa_nil_))) (hd := sc__law_right.nd)) pa_nil_))) pss_nil_)))))))
abbrev s_law : Stmt := top 30
abbrev n_law : List Str := ["_law_script", "_law_marks", "_law_place", "_law_pot_here", "_law_lap"]
theorem sc_law : FnScope n_law ["_law_script"] (defScope s_law) := ⟨rfl, rfl, rfl, by decide +kernel, rfl, by decide +kernel, by decide +kernel⟩
def b_law (cf : CF) : SM := (sSeq (sIf (bNot (gTru (gL (gR1 fAll) (gCons (gLc false (iSeq (g2 (gBin false .Add) (gL (cf (.g "_law_all_marks")) (gCons (gC (.int 3)) gNil)) (gL (cf (.g "_law_all_marks")) (gCons (gC (.int 4)) gNil)))) (aName 1) cYes (gL (cf (.g "_law_is_standing_right")) (gCons (gVar 1) gNil)) [1]) gNil)))) (sSeq (sRet (gC (.bl false))) sNext) sNext) (sSeq (sFor (iSeq (gL (cf (.g "_law_cells")) (gCons (gVar 0) (gCons (gC (.int 6)) gNil)))) (aName 2) (sSeq (sAsg (aName 3) (gL (cf (.g "_law_pot")) (gCons (gVar 0) (gCons (gVar 2) gNil)))) (sSeq (sIf (bNot (gTru (gL (gR1 fAll) (gCons (gLc false (iRng1 (gCons (gC (.int 4)) gNil)) (aName 4) cYes (gL (cf (.g "_law_right")) (gCons (gVar 3) gNil)) [4]) gNil)))) (sSeq (sRet (gC (.bl false))) sNext) sNext) sNext))) (sSeq (sRet (gC (.bl true))) sNext)))
def r_law (cf : CF) : List RV → M RV := runDef false 1 5 (b_law cf)
theorem dF_law (E0 : En) {f : Addr} {fd : FuncData} (F : FunD E0.K "law" "law" (defArgs s_law) (defBody s_law) (defScope s_law) [] [] f fd) {cf : CF} {k : Nat} (D : DefsE E0 B k cf) (A0 : All E0 B frees) : FnG E0.P E0.w E0.K E0.mg E0.base (L2.CX E0.P E0.w) (k + 5) f fd ["_law_script"] (spI ⟨E0.K, E0.tb⟩ (r_law cf) 1) :=
  def_okF (tb := E0.tb) (ps := ["_law_script"]) (keep := false) (N := n_law) F sc_law fun cdv A outer s H E hg hr =>
    have C : Ctx (cxOf (L2.CX E0.P E0.w) E0.P E0.w E0.K E0.mg E0.base n_law "law" (defScope s_law) f cdv A outer s H E) E0.tb B frees E0.er k cf := A0.ctx D hg (hr.mono (by omega))
    have tk : Takes (cxOf (L2.CX E0.P E0.w) E0.P E0.w E0.K E0.mg E0.base n_law "law" (defScope s_law) f cdv A outer s H E) (fun c d _ H => E c d H) := takes_of rfl rfl rfl rfl
    (pss_cons_ (ps_if_ (pt_not_ (xtr (xb C (run_all rfl) (by decide +kernel) rfl (xa (xlc false [("_law_marks", 1)] (pi_seq_ (xo false .Add (xg C tk (by decide +kernel) (xa xint pa_nil_)) (xg C tk (by decide +kernel) (xa xint pa_nil_)))) (blkOk_by (N := n_law) (sc := defScope s_law) (by decide +kernel)) (fun _ _ _ _ _ => (xpn 1 (by first | exact Or.inl rfl | exact Or.inr rfl) (hd := sc_law.nd))) (fun _ _ _ _ _ => (pts_nil_ rfl rfl)) (fun _ _ _ _ _ => (xg (C.to) takes_false (by decide +kernel) (xa (xv 1 (by first | exact Or.inl rfl | exact Or.inr (Or.inl rfl) | exact Or.inr (Or.inr rfl))) pa_nil_))) (hd := sc_law.nd)) pa_nil_)))) (pss_cons_ (ps_ret_ xbl) pss_nil_) pss_nil_) (pss_cons_ (xfor (own := [2]) (passes_of rfl) (pi_seq_ (xg C tk (by decide +kernel) (xa (xv 0 (by first | exact Or.inl rfl | exact Or.inr (Or.inl rfl) | exact Or.inr (Or.inr rfl))) (xa xint pa_nil_)))) (xpn 2 (by first | exact Or.inl rfl | exact Or.inr rfl) (hd := sc_law.nd)) (pss_cons_ (xset 3 (by first | exact Or.inl rfl | exact Or.inr rfl) (xg C tk (by decide +kernel) (xa (xv 0 (by first | exact Or.inl rfl | exact Or.inr (Or.inl rfl) | exact Or.inr (Or.inr rfl))) (xa (xv 2 (by first | exact Or.inl rfl | exact Or.inr (Or.inl rfl) | exact Or.inr (Or.inr rfl))) pa_nil_))) (hd := sc_law.nd)) (pss_cons_ (ps_if_ (pt_not_ (xtr (xb C (run_all rfl) (by decide +kernel) rfl (xa (xlc false [("_law_lap", 4)] (xrg1 C (by decide +kernel) (xa xint pa_nil_)) (blkOk_by (N := n_law) (sc := defScope s_law) (by decide +kernel)) (fun _ _ _ _ _ => (xpn 4 (by first | exact Or.inl rfl | exact Or.inr rfl) (hd := sc_law.nd))) (fun _ _ _ _ _ => (pts_nil_ rfl rfl)) (fun _ _ _ _ _ => (xg (C.to) takes_false (by decide +kernel) (xa (xv 3 (by first | exact Or.inl rfl | exact Or.inr (Or.inl rfl) | exact Or.inr (Or.inr rfl))) pa_nil_))) (hd := sc_law.nd)) pa_nil_)))) (pss_cons_ (ps_ret_ xbl) pss_nil_) pss_nil_) pss_nil_))) (pss_cons_ (ps_ret_ xbl) pss_nil_)))
theorem d_law (E0 : En) {f : Addr} {fd : FuncData} (F : FunD E0.K "law" "law" (defArgs s_law) (defBody s_law) (defScope s_law) [] [] f fd) {cf : CF} {k : Nat} (D : DefsE E0 B k cf) (A0 : All E0 B frees) : FI E0.P E0.w E0.K E0.mg E0.base E0.tb (k + 5) f (r_law cf) :=
  FI.ofF (np := 1) (ps := ["_law_script"]) (nn := n_law.length) (keep := false) (b := b_law cf) (dF_law E0 F D A0) (F.bindsN fun _ _ _ _ _ _ us hl => match us, hl with | [_], _ => rfl) F.kp
def tab : List (FK × (CF → List RV → M RV)) := [(.m "Standing" "__init__", r_Standing___init__), (.m "Standing" "marks", r_Standing_marks), (.m "Standing" "wires", r_Standing_wires), (.m "Standing" "is_short", r_Standing_is_short), (.m "Standing" "bare", r_Standing_bare), (.m "Standing" "__contains__", r_Standing___contains__), (.m "Standing" "__or__", r_Standing___or__), (.m "Standing" "__and__", r_Standing___and__), (.m "Standing" "__eq__", r_Standing___eq__), (.g "is_int", r_is_int), (.g "are_marks", r_are_marks), (.g "check_wires", r_check_wires), (.g "merged", r_merged), (.g "_law_pot", r__law_pot), (.g "_law_take", r__law_take), (.g "_law_of", r__law_of), (.g "_law_cells", r__law_cells), (.g "_law_odd", r__law_odd), (.g "_law_bent_value", r__law_bent_value), (.g "_law_all_marks", r__law_all_marks), (.g "_law_drawn_marks", r__law_drawn_marks), (.g "_law_are_marks", r__law_are_marks), (.g "_law_is_standing_right", r__law_is_standing_right), (.g "_law_is_taken_right", r__law_is_taken_right), (.g "_law_is_bare_right", r__law_is_bare_right), (.g "_law_right", r__law_right), (.g "law", r_law)]
theorem e_Standing___init__ : tab.lookup (.m "Standing" "__init__") = some r_Standing___init__ := by rfl
theorem e_Standing_marks : tab.lookup (.m "Standing" "marks") = some r_Standing_marks := by rfl
theorem e_Standing_wires : tab.lookup (.m "Standing" "wires") = some r_Standing_wires := by rfl
theorem e_Standing_is_short : tab.lookup (.m "Standing" "is_short") = some r_Standing_is_short := by rfl
theorem e_Standing_bare : tab.lookup (.m "Standing" "bare") = some r_Standing_bare := by rfl
theorem e_Standing___contains__ : tab.lookup (.m "Standing" "__contains__") = some r_Standing___contains__ := by rfl
theorem e_Standing___or__ : tab.lookup (.m "Standing" "__or__") = some r_Standing___or__ := by rfl
theorem e_Standing___and__ : tab.lookup (.m "Standing" "__and__") = some r_Standing___and__ := by rfl
theorem e_Standing___eq__ : tab.lookup (.m "Standing" "__eq__") = some r_Standing___eq__ := by rfl
theorem e_is_int : tab.lookup (.g "is_int") = some r_is_int := by rfl
theorem e_are_marks : tab.lookup (.g "are_marks") = some r_are_marks := by rfl
theorem e_check_wires : tab.lookup (.g "check_wires") = some r_check_wires := by rfl
theorem e_merged : tab.lookup (.g "merged") = some r_merged := by rfl
theorem e__law_pot : tab.lookup (.g "_law_pot") = some r__law_pot := by rfl
theorem e__law_take : tab.lookup (.g "_law_take") = some r__law_take := by rfl
theorem e__law_of : tab.lookup (.g "_law_of") = some r__law_of := by rfl
theorem e__law_cells : tab.lookup (.g "_law_cells") = some r__law_cells := by rfl
theorem e__law_odd : tab.lookup (.g "_law_odd") = some r__law_odd := by rfl
theorem e__law_bent_value : tab.lookup (.g "_law_bent_value") = some r__law_bent_value := by rfl
theorem e__law_all_marks : tab.lookup (.g "_law_all_marks") = some r__law_all_marks := by rfl
theorem e__law_drawn_marks : tab.lookup (.g "_law_drawn_marks") = some r__law_drawn_marks := by rfl
theorem e__law_are_marks : tab.lookup (.g "_law_are_marks") = some r__law_are_marks := by rfl
theorem e__law_is_standing_right : tab.lookup (.g "_law_is_standing_right") = some r__law_is_standing_right := by rfl
theorem e__law_is_taken_right : tab.lookup (.g "_law_is_taken_right") = some r__law_is_taken_right := by rfl
theorem e__law_is_bare_right : tab.lookup (.g "_law_is_bare_right") = some r__law_is_bare_right := by rfl
theorem e__law_right : tab.lookup (.g "_law_right") = some r__law_right := by rfl
theorem e_law : tab.lookup (.g "law") = some r_law := by rfl
end Q01

set_option Elab.async false
set_option linter.all false
set_option maxRecDepth 100000
set_option maxHeartbeats 4000000
namespace Q01
open PySem PySem.Spec PyProof.Rows L2 Lw LamX Py
def a_Standing___init__ : He5.DefA := ⟨fun K => He.ma K (He.ga K "Standing") "__init__", "__init__", "Standing.__init__", defArgs s_Standing___init__, defBody s_Standing___init__, defScope s_Standing___init__, [], []⟩
def a_Standing_marks : He5.DefA := ⟨fun K => He5.wf K (He.ga K "Standing") "property" "marks", "marks", "Standing.marks", defArgs s_Standing_marks, defBody s_Standing_marks, defScope s_Standing_marks, [], []⟩
def a_Standing_wires : He5.DefA := ⟨fun K => He5.wf K (He.ga K "Standing") "property" "wires", "wires", "Standing.wires", defArgs s_Standing_wires, defBody s_Standing_wires, defScope s_Standing_wires, [], []⟩
def a_Standing_is_short : He5.DefA := ⟨fun K => He5.wf K (He.ga K "Standing") "property" "is_short", "is_short", "Standing.is_short", defArgs s_Standing_is_short, defBody s_Standing_is_short, defScope s_Standing_is_short, [], []⟩
def a_Standing_bare : He5.DefA := ⟨fun K => He5.wf K (He.ga K "Standing") "staticmethod" "bare", "bare", "Standing.bare", defArgs s_Standing_bare, defBody s_Standing_bare, defScope s_Standing_bare, [], []⟩
def a_Standing___contains__ : He5.DefA := ⟨fun K => He.ma K (He.ga K "Standing") "__contains__", "__contains__", "Standing.__contains__", defArgs s_Standing___contains__, defBody s_Standing___contains__, defScope s_Standing___contains__, [], []⟩
def a_Standing___or__ : He5.DefA := ⟨fun K => He.ma K (He.ga K "Standing") "__or__", "__or__", "Standing.__or__", defArgs s_Standing___or__, defBody s_Standing___or__, defScope s_Standing___or__, [], []⟩
def a_Standing___and__ : He5.DefA := ⟨fun K => He.ma K (He.ga K "Standing") "__and__", "__and__", "Standing.__and__", defArgs s_Standing___and__, defBody s_Standing___and__, defScope s_Standing___and__, [], []⟩
def a_Standing___eq__ : He5.DefA := ⟨fun K => He.ma K (He.ga K "Standing") "__eq__", "__eq__", "Standing.__eq__", defArgs s_Standing___eq__, defBody s_Standing___eq__, defScope s_Standing___eq__, [], []⟩
def a_is_int : He5.DefA := ⟨fun K => He.ga K "is_int", "is_int", "is_int", defArgs s_is_int, defBody s_is_int, defScope s_is_int, [], []⟩
def a_are_marks : He5.DefA := ⟨fun K => He.ga K "are_marks", "are_marks", "are_marks", defArgs s_are_marks, defBody s_are_marks, defScope s_are_marks, [], []⟩
def a_check_wires : He5.DefA := ⟨fun K => He.ga K "check_wires", "check_wires", "check_wires", defArgs s_check_wires, defBody s_check_wires, defScope s_check_wires, [], []⟩
def a_merged : He5.DefA := ⟨fun K => He.ga K "merged", "merged", "merged", defArgs s_merged, defBody s_merged, defScope s_merged, [], []⟩
def a__law_pot : He5.DefA := ⟨fun K => He.ga K "_law_pot", "_law_pot", "_law_pot", defArgs s__law_pot, defBody s__law_pot, defScope s__law_pot, [], []⟩
def a__law_take : He5.DefA := ⟨fun K => He.ga K "_law_take", "_law_take", "_law_take", defArgs s__law_take, defBody s__law_take, defScope s__law_take, [], []⟩
def a__law_of : He5.DefA := ⟨fun K => He.ga K "_law_of", "_law_of", "_law_of", defArgs s__law_of, defBody s__law_of, defScope s__law_of, [], []⟩
def a__law_cells : He5.DefA := ⟨fun K => He.ga K "_law_cells", "_law_cells", "_law_cells", defArgs s__law_cells, defBody s__law_cells, defScope s__law_cells, [], []⟩
def a__law_odd : He5.DefA := ⟨fun K => He.ga K "_law_odd", "_law_odd", "_law_odd", defArgs s__law_odd, defBody s__law_odd, defScope s__law_odd, [], []⟩
def a__law_bent_value : He5.DefA := ⟨fun K => He.ga K "_law_bent_value", "_law_bent_value", "_law_bent_value", defArgs s__law_bent_value, defBody s__law_bent_value, defScope s__law_bent_value, [], []⟩
def a__law_all_marks : He5.DefA := ⟨fun K => He.ga K "_law_all_marks", "_law_all_marks", "_law_all_marks", defArgs s__law_all_marks, defBody s__law_all_marks, defScope s__law_all_marks, [], []⟩
def a__law_drawn_marks : He5.DefA := ⟨fun K => He.ga K "_law_drawn_marks", "_law_drawn_marks", "_law_drawn_marks", defArgs s__law_drawn_marks, defBody s__law_drawn_marks, defScope s__law_drawn_marks, [], []⟩
def a__law_are_marks : He5.DefA := ⟨fun K => He.ga K "_law_are_marks", "_law_are_marks", "_law_are_marks", defArgs s__law_are_marks, defBody s__law_are_marks, defScope s__law_are_marks, [], []⟩
def a__law_is_standing_right : He5.DefA := ⟨fun K => He.ga K "_law_is_standing_right", "_law_is_standing_right", "_law_is_standing_right", defArgs s__law_is_standing_right, defBody s__law_is_standing_right, defScope s__law_is_standing_right, [], []⟩
def a__law_is_taken_right : He5.DefA := ⟨fun K => He.ga K "_law_is_taken_right", "_law_is_taken_right", "_law_is_taken_right", defArgs s__law_is_taken_right, defBody s__law_is_taken_right, defScope s__law_is_taken_right, [], []⟩
def a__law_is_bare_right : He5.DefA := ⟨fun K => He.ga K "_law_is_bare_right", "_law_is_bare_right", "_law_is_bare_right", defArgs s__law_is_bare_right, defBody s__law_is_bare_right, defScope s__law_is_bare_right, [], []⟩
def a__law_right : He5.DefA := ⟨fun K => He.ga K "_law_right", "_law_right", "_law_right", defArgs s__law_right, defBody s__law_right, defScope s__law_right, [], []⟩
def a_law : He5.DefA := ⟨fun K => He.ga K "law", "law", "law", defArgs s_law, defBody s_law, defScope s_law, [], []⟩
abbrev sErrI : Stmt := inClass (top 2) 0
theorem scErrI : FnScope ["self", "value"] ["self", "value"] (defScope sErrI) := ⟨rfl, rfl, rfl, by decide +kernel, rfl, by decide +kernel, by decide +kernel⟩
def a_errI : He5.DefA := ⟨fun K => He.ma K (He.ga K "WireError") "__init__", "__init__", "WireError.__init__", defArgs sErrI, defBody sErrI, defScope sErrI, [], []⟩
theorem scTold : FnScope nTold ["_law_look"] (defScope sTold) := ⟨rfl, rfl, rfl, by decide +kernel, rfl, by decide +kernel, by decide +kernel⟩
def a_told : He5.DefA := ⟨fun K => He.ga K "_law_told", "_law_told", "_law_told", defArgs sTold, defBody sTold, defScope sTold, [], []⟩
def fn : List He5.DefA := [a_Standing___init__, a_Standing_marks, a_Standing_wires, a_Standing_is_short, a_Standing_bare, a_Standing___contains__, a_Standing___or__, a_Standing___and__, a_Standing___eq__, a_is_int, a_are_marks, a_check_wires, a_merged, a__law_pot, a__law_take, a__law_of, a__law_cells, a__law_odd, a__law_bent_value, a__law_all_marks, a__law_drawn_marks, a__law_are_marks, a__law_is_standing_right, a__law_is_taken_right, a__law_is_bare_right, a__law_right, a_law, a_errI, a_told]
def tf : List He.Defn := [("_law_is_taken_right", none), ("_law_is_bare_right", none)]
def tbOf (K : PySem.W.Frag) : List (Addr × Str) := [((He.cT K ("_law_is_taken_right", none)).2, (envOfC "_law_is_taken_right" (defScope s__law_is_taken_right) 0 0 .none).qual ++ "<lambda>"), ((He.cT K ("_law_is_bare_right", none)).2, (envOfC "_law_is_bare_right" (defScope s__law_is_bare_right) 0 0 .none).qual ++ "<lambda>")]
def loose : List Str := ["_wall", "WireError", "BadMarks", "BadWires", "OtherWires", "is_int", "LEAST_WIRES", "MOST_WIRES", "Standing", "are_marks", "check_wires", "merged", "_law_pot", "_law_take", "_law_of", "_law_cells", "_law_told", "_law_odd", "_law_bent_value", "_law_all_marks", "_law_drawn_marks", "_law_are_marks", "_law_is_standing_right", "_law_is_taken_right", "_law_is_bare_right", "_law_right", "law"]
def chk (K : PySem.W.Frag) : Bool := chkB B frees "WireError" K && (gloB K "_law_told" && (tbUq (tbOf K)))
abbrev R : PySem.W.OpenRow := PySem.W.OpenLaw.row PySem.Challenge.rw_landingwires_k01_standings_by_their_mark
abbrev hk : PySem.W.Hook := hookCT 6 chk fn tf
def ob (s : PySem.W.SharedT) : He.AlX := obsCT 6 chk fn tf (HandSHeadRun.getT s)
theorem ob_eq (s : PySem.W.SharedT) : ob s = hk.obs s.abs := obsCT_eq (HandSHeadRun.getT_eq s)
theorem run (w : World) : HandSHeadRun.RunEq R (PySem.W.view R.prog [30]) hk ob 8000 loose w := by
  intro os
  kernel_rfl
end Q01

set_option Elab.async false
set_option linter.all false
set_option maxRecDepth 100000
set_option maxHeartbeats 4000000
namespace Q01
open PySem PySem.Spec PyProof.Rows L2 Lw LamX Py
theorem ok_errI {P : Program} {w : World} {K : PySem.W.Frag} {mg : Str → Option Value} {base : Heap} {f : Addr} {fd : FuncData} (F : FunD K "__init__" "WireError.__init__" (defArgs sErrI) (defBody sErrI) (defScope sErrI) [] [] f fd) : ∃ fd, FnOk P w K mg base (L2.CX P w) 1 f fd ["self", "value"] (spErr K) ∧ Binds K fd ["self", "value"] [] := by
  refine ⟨_, F.ok scErrI (fun vs H Q E h => ?_) (fun cdv A outer s H vs Q E hr h => ⟨_, PSs.nox (pss_one (ps_ost (pv 0) (pv 1))), spErr_reads h⟩), F.bindsN fun _ _ _ _ _ _ us hl => match us, hl with | [_, _], _ => rfl⟩
  obtain ⟨a, C, v, rfl, _⟩ := h
  rfl
theorem told_ok {X : Cx} {g : Addr} (hW : X.mg "WireError" = some (.ref (He.ga X.K "WireError"))) (cdg : Value) : Calls2 X nTold "_law_told" (defScope sTold) g cdg (defBody sTold) "_law_look" (TTold X.K (He.ga X.K "WireError")) := by
  intro f s H Q tl act h
  have big : 100000 ≤ sizeLine := by rw [sizeLine_eq]; omega
  refine ⟨_, pss_cons (ps_asg (pe_tup (pa_cons pe_non (pa_cons pe_non pa_nil))) (tupG X.K 2 (pgs_cons (pg_name (i := 1) scTold.nd rfl (Or.inl rfl)) (pgs_cons (pg_name (i := 2) scTold.nd rfl (Or.inl rfl)) pgs_nil)))) (pss_cons
    (ps_try_held (X := (cxOf CX0 X.prog X.w X.K X.mg X.base nTold "_law_told" (defScope sTold) g cdg X.A X.stack s H E0).nox) (c := .ref (He.ga X.K "WireError")) (i := 3) (Wout := fun _ _ _ _ => False)
      (tb := fun W => tAsg (fun σZ HZ Q => σZ[0]? = some (some (.ref f)) ∧ Same H HZ ∧ ∃ E, (∀ cls d H', E cls d H' → W cls d σZ H') ∧ tl E HZ Q) (gName 2))
      rfl rfl rfl scTold.nd rfl rfl ⟨rfl, by decide, .inl hW⟩ LamX.takes0 (fun W pn xe tk _ => pss_one (ps_set (i := 2) scTold.nd rfl (Or.inl rfl) (act W pn xe _ _ tk))) (fun a oe cls d pn _ _ => pss_one (ps_set (i := 1) scTold.nd rfl (Or.inl rfl) (pv 3))))
    (pss_one (ps_ret (pe_tup (pa_cons (pv 1) (pa_cons (pv 2) pa_nil)))))), ?_⟩
  refine ⟨by show 2 ≤ sizeLine; omega, fun t0 n0 => ⟨t0, _, rfl, SqT.of upd_same, rfl, _, _, rfl, _, _, rfl, rfl, ?_⟩⟩
  have s0 := same_new (o := .tup [V.non, V.non]) n0
  refine ⟨rfl, s0, ToldE X.K (He.ga X.K "WireError") Q, fun cls d H' hE => ⟨true, hE.1, fun _ a na => ⟨_, rfl, fun na2 => ?_⟩, fun z => Bool.noConfusion z⟩, h _ _ _ s0 (fun _ _ _ z => z) fun v H' hv => ⟨_, rfl, _, rfl, by show 2 ≤ sizeLine; omega, fun p np => hv p np⟩⟩
  exact ⟨_, rfl, _, rfl, by show 2 ≤ sizeLine; omega, fun p np => hE.2 a p na np⟩
structure Fns (E : En) : Prop where
  f_Standing___init__ : ∃ fd, FunD E.K "__init__" "Standing.__init__" (defArgs s_Standing___init__) (defBody s_Standing___init__) (defScope s_Standing___init__) [] [] (He.ma E.K (He.ga E.K "Standing") "__init__") fd
  f_Standing_marks : ∃ fd, FunD E.K "marks" "Standing.marks" (defArgs s_Standing_marks) (defBody s_Standing_marks) (defScope s_Standing_marks) [] [] (He5.wf E.K (He.ga E.K "Standing") "property" "marks") fd
  f_Standing_wires : ∃ fd, FunD E.K "wires" "Standing.wires" (defArgs s_Standing_wires) (defBody s_Standing_wires) (defScope s_Standing_wires) [] [] (He5.wf E.K (He.ga E.K "Standing") "property" "wires") fd
  f_Standing_is_short : ∃ fd, FunD E.K "is_short" "Standing.is_short" (defArgs s_Standing_is_short) (defBody s_Standing_is_short) (defScope s_Standing_is_short) [] [] (He5.wf E.K (He.ga E.K "Standing") "property" "is_short") fd
  f_Standing_bare : ∃ fd, FunD E.K "bare" "Standing.bare" (defArgs s_Standing_bare) (defBody s_Standing_bare) (defScope s_Standing_bare) [] [] (He5.wf E.K (He.ga E.K "Standing") "staticmethod" "bare") fd
  f_Standing___contains__ : ∃ fd, FunD E.K "__contains__" "Standing.__contains__" (defArgs s_Standing___contains__) (defBody s_Standing___contains__) (defScope s_Standing___contains__) [] [] (He.ma E.K (He.ga E.K "Standing") "__contains__") fd
  f_Standing___or__ : ∃ fd, FunD E.K "__or__" "Standing.__or__" (defArgs s_Standing___or__) (defBody s_Standing___or__) (defScope s_Standing___or__) [] [] (He.ma E.K (He.ga E.K "Standing") "__or__") fd
  f_Standing___and__ : ∃ fd, FunD E.K "__and__" "Standing.__and__" (defArgs s_Standing___and__) (defBody s_Standing___and__) (defScope s_Standing___and__) [] [] (He.ma E.K (He.ga E.K "Standing") "__and__") fd
  f_Standing___eq__ : ∃ fd, FunD E.K "__eq__" "Standing.__eq__" (defArgs s_Standing___eq__) (defBody s_Standing___eq__) (defScope s_Standing___eq__) [] [] (He.ma E.K (He.ga E.K "Standing") "__eq__") fd
  f_is_int : ∃ fd, FunD E.K "is_int" "is_int" (defArgs s_is_int) (defBody s_is_int) (defScope s_is_int) [] [] (He.ga E.K "is_int") fd
  f_are_marks : ∃ fd, FunD E.K "are_marks" "are_marks" (defArgs s_are_marks) (defBody s_are_marks) (defScope s_are_marks) [] [] (He.ga E.K "are_marks") fd
  f_check_wires : ∃ fd, FunD E.K "check_wires" "check_wires" (defArgs s_check_wires) (defBody s_check_wires) (defScope s_check_wires) [] [] (He.ga E.K "check_wires") fd
  f_merged : ∃ fd, FunD E.K "merged" "merged" (defArgs s_merged) (defBody s_merged) (defScope s_merged) [] [] (He.ga E.K "merged") fd
  f__law_pot : ∃ fd, FunD E.K "_law_pot" "_law_pot" (defArgs s__law_pot) (defBody s__law_pot) (defScope s__law_pot) [] [] (He.ga E.K "_law_pot") fd
  f__law_take : ∃ fd, FunD E.K "_law_take" "_law_take" (defArgs s__law_take) (defBody s__law_take) (defScope s__law_take) [] [] (He.ga E.K "_law_take") fd
  f__law_of : ∃ fd, FunD E.K "_law_of" "_law_of" (defArgs s__law_of) (defBody s__law_of) (defScope s__law_of) [] [] (He.ga E.K "_law_of") fd
  f__law_cells : ∃ fd, FunD E.K "_law_cells" "_law_cells" (defArgs s__law_cells) (defBody s__law_cells) (defScope s__law_cells) [] [] (He.ga E.K "_law_cells") fd
  f__law_odd : ∃ fd, FunD E.K "_law_odd" "_law_odd" (defArgs s__law_odd) (defBody s__law_odd) (defScope s__law_odd) [] [] (He.ga E.K "_law_odd") fd
  f__law_bent_value : ∃ fd, FunD E.K "_law_bent_value" "_law_bent_value" (defArgs s__law_bent_value) (defBody s__law_bent_value) (defScope s__law_bent_value) [] [] (He.ga E.K "_law_bent_value") fd
  f__law_all_marks : ∃ fd, FunD E.K "_law_all_marks" "_law_all_marks" (defArgs s__law_all_marks) (defBody s__law_all_marks) (defScope s__law_all_marks) [] [] (He.ga E.K "_law_all_marks") fd
  f__law_drawn_marks : ∃ fd, FunD E.K "_law_drawn_marks" "_law_drawn_marks" (defArgs s__law_drawn_marks) (defBody s__law_drawn_marks) (defScope s__law_drawn_marks) [] [] (He.ga E.K "_law_drawn_marks") fd
  f__law_are_marks : ∃ fd, FunD E.K "_law_are_marks" "_law_are_marks" (defArgs s__law_are_marks) (defBody s__law_are_marks) (defScope s__law_are_marks) [] [] (He.ga E.K "_law_are_marks") fd
  f__law_is_standing_right : ∃ fd, FunD E.K "_law_is_standing_right" "_law_is_standing_right" (defArgs s__law_is_standing_right) (defBody s__law_is_standing_right) (defScope s__law_is_standing_right) [] [] (He.ga E.K "_law_is_standing_right") fd
  f__law_is_taken_right : ∃ fd, FunD E.K "_law_is_taken_right" "_law_is_taken_right" (defArgs s__law_is_taken_right) (defBody s__law_is_taken_right) (defScope s__law_is_taken_right) [] [] (He.ga E.K "_law_is_taken_right") fd ∧ fd.code = .ref (He.cT E.K ("_law_is_taken_right", none)).1 ∧ Tolds E "WireError" "_law_told" "_law_look" sTold nTold (He.cT E.K ("_law_is_taken_right", none)) (envOfC "_law_is_taken_right" (defScope s__law_is_taken_right) 0 0 .none).qual
  f__law_is_bare_right : ∃ fd, FunD E.K "_law_is_bare_right" "_law_is_bare_right" (defArgs s__law_is_bare_right) (defBody s__law_is_bare_right) (defScope s__law_is_bare_right) [] [] (He.ga E.K "_law_is_bare_right") fd ∧ fd.code = .ref (He.cT E.K ("_law_is_bare_right", none)).1 ∧ Tolds E "WireError" "_law_told" "_law_look" sTold nTold (He.cT E.K ("_law_is_bare_right", none)) (envOfC "_law_is_bare_right" (defScope s__law_is_bare_right) 0 0 .none).qual
  f__law_right : ∃ fd, FunD E.K "_law_right" "_law_right" (defArgs s__law_right) (defBody s__law_right) (defScope s__law_right) [] [] (He.ga E.K "_law_right") fd
  f_law : ∃ fd, FunD E.K "law" "law" (defArgs s_law) (defBody s_law) (defScope s_law) [] [] (He.ga E.K "law") fd
section
variable {E : En}
theorem u_Standing___init__ (A0 : All E B frees) (G : Fns E) {cf : CF} {k : Nat} (D : DefsE E B k cf) : FI E.P E.w E.K E.mg E.base E.tb (k + 5) (He.ma E.K (He.ga E.K "Standing") "__init__") (nextCF tab cf (.m "Standing" "__init__")) := by
  have e : nextCF tab cf (.m "Standing" "__init__") = loc (r_Standing___init__ cf) := by unfold nextCF; rw [e_Standing___init__]
  rw [e]
  obtain ⟨fd, F⟩ := G.f_Standing___init__
  exact FI.loc (d_Standing___init__ E F D A0)
theorem z_Standing___init__ (G : Fns E) : FI E.P E.w E.K E.mg E.base E.tb 0 (He.ma E.K (He.ga E.K "Standing") "__init__") (fun _ _ => .stuck) := by
  obtain ⟨fd, F⟩ := G.f_Standing___init__
  exact FI.zero (ps := ["self", "marks"]) F (F.bindsN fun _ _ _ _ _ _ us hl => match us, hl with | [_, _], _ => rfl)
theorem u_Standing_marks (A0 : All E B frees) (G : Fns E) {cf : CF} {k : Nat} (D : DefsE E B k cf) : FI E.P E.w E.K E.mg E.base E.tb (k + 5) (He5.wf E.K (He.ga E.K "Standing") "property" "marks") (nextCF tab cf (.m "Standing" "marks")) := by
  have e : nextCF tab cf (.m "Standing" "marks") = loc (r_Standing_marks cf) := by unfold nextCF; rw [e_Standing_marks]
  rw [e]
  obtain ⟨fd, F⟩ := G.f_Standing_marks
  exact FI.loc (d_Standing_marks E F D A0)
theorem z_Standing_marks (G : Fns E) : FI E.P E.w E.K E.mg E.base E.tb 0 (He5.wf E.K (He.ga E.K "Standing") "property" "marks") (fun _ _ => .stuck) := by
  obtain ⟨fd, F⟩ := G.f_Standing_marks
  exact FI.zero (ps := ["self"]) F (F.bindsN fun _ _ _ _ _ _ us hl => match us, hl with | [_], _ => rfl)
theorem u_Standing_wires (A0 : All E B frees) (G : Fns E) {cf : CF} {k : Nat} (D : DefsE E B k cf) : FI E.P E.w E.K E.mg E.base E.tb (k + 5) (He5.wf E.K (He.ga E.K "Standing") "property" "wires") (nextCF tab cf (.m "Standing" "wires")) := by
  have e : nextCF tab cf (.m "Standing" "wires") = loc (r_Standing_wires cf) := by unfold nextCF; rw [e_Standing_wires]
  rw [e]
  obtain ⟨fd, F⟩ := G.f_Standing_wires
  exact FI.loc (d_Standing_wires E F D A0)
theorem z_Standing_wires (G : Fns E) : FI E.P E.w E.K E.mg E.base E.tb 0 (He5.wf E.K (He.ga E.K "Standing") "property" "wires") (fun _ _ => .stuck) := by
  obtain ⟨fd, F⟩ := G.f_Standing_wires
  exact FI.zero (ps := ["self"]) F (F.bindsN fun _ _ _ _ _ _ us hl => match us, hl with | [_], _ => rfl)
theorem u_Standing_is_short (A0 : All E B frees) (G : Fns E) {cf : CF} {k : Nat} (D : DefsE E B k cf) : FI E.P E.w E.K E.mg E.base E.tb (k + 5) (He5.wf E.K (He.ga E.K "Standing") "property" "is_short") (nextCF tab cf (.m "Standing" "is_short")) := by
  have e : nextCF tab cf (.m "Standing" "is_short") = loc (r_Standing_is_short cf) := by unfold nextCF; rw [e_Standing_is_short]
  rw [e]
  obtain ⟨fd, F⟩ := G.f_Standing_is_short
  exact FI.loc (d_Standing_is_short E F D A0)
theorem z_Standing_is_short (G : Fns E) : FI E.P E.w E.K E.mg E.base E.tb 0 (He5.wf E.K (He.ga E.K "Standing") "property" "is_short") (fun _ _ => .stuck) := by
  obtain ⟨fd, F⟩ := G.f_Standing_is_short
  exact FI.zero (ps := ["self"]) F (F.bindsN fun _ _ _ _ _ _ us hl => match us, hl with | [_], _ => rfl)
theorem u_Standing_bare (A0 : All E B frees) (G : Fns E) {cf : CF} {k : Nat} (D : DefsE E B k cf) : FI E.P E.w E.K E.mg E.base E.tb (k + 5) (He5.wf E.K (He.ga E.K "Standing") "staticmethod" "bare") (nextCF tab cf (.m "Standing" "bare")) := by
  have e : nextCF tab cf (.m "Standing" "bare") = loc (r_Standing_bare cf) := by unfold nextCF; rw [e_Standing_bare]
  rw [e]
  obtain ⟨fd, F⟩ := G.f_Standing_bare
  exact FI.loc (d_Standing_bare E F D A0)
theorem z_Standing_bare (G : Fns E) : FI E.P E.w E.K E.mg E.base E.tb 0 (He5.wf E.K (He.ga E.K "Standing") "staticmethod" "bare") (fun _ _ => .stuck) := by
  obtain ⟨fd, F⟩ := G.f_Standing_bare
  exact FI.zero (ps := ["wires"]) F (F.bindsN fun _ _ _ _ _ _ us hl => match us, hl with | [_], _ => rfl)
theorem u_Standing___contains__ (A0 : All E B frees) (G : Fns E) {cf : CF} {k : Nat} (D : DefsE E B k cf) : FI E.P E.w E.K E.mg E.base E.tb (k + 5) (He.ma E.K (He.ga E.K "Standing") "__contains__") (nextCF tab cf (.m "Standing" "__contains__")) := by
  have e : nextCF tab cf (.m "Standing" "__contains__") = loc (r_Standing___contains__ cf) := by unfold nextCF; rw [e_Standing___contains__]
  rw [e]
  obtain ⟨fd, F⟩ := G.f_Standing___contains__
  exact FI.loc (d_Standing___contains__ E F D A0)
theorem z_Standing___contains__ (G : Fns E) : FI E.P E.w E.K E.mg E.base E.tb 0 (He.ma E.K (He.ga E.K "Standing") "__contains__") (fun _ _ => .stuck) := by
  obtain ⟨fd, F⟩ := G.f_Standing___contains__
  exact FI.zero (ps := ["self", "value"]) F (F.bindsN fun _ _ _ _ _ _ us hl => match us, hl with | [_, _], _ => rfl)
theorem u_Standing___or__ (A0 : All E B frees) (G : Fns E) {cf : CF} {k : Nat} (D : DefsE E B k cf) : FI E.P E.w E.K E.mg E.base E.tb (k + 5) (He.ma E.K (He.ga E.K "Standing") "__or__") (nextCF tab cf (.m "Standing" "__or__")) := by
  have e : nextCF tab cf (.m "Standing" "__or__") = loc (r_Standing___or__ cf) := by unfold nextCF; rw [e_Standing___or__]
  rw [e]
  obtain ⟨fd, F⟩ := G.f_Standing___or__
  exact FI.loc (d_Standing___or__ E F D A0)
theorem z_Standing___or__ (G : Fns E) : FI E.P E.w E.K E.mg E.base E.tb 0 (He.ma E.K (He.ga E.K "Standing") "__or__") (fun _ _ => .stuck) := by
  obtain ⟨fd, F⟩ := G.f_Standing___or__
  exact FI.zero (ps := ["self", "other"]) F (F.bindsN fun _ _ _ _ _ _ us hl => match us, hl with | [_, _], _ => rfl)
theorem u_Standing___and__ (A0 : All E B frees) (G : Fns E) {cf : CF} {k : Nat} (D : DefsE E B k cf) : FI E.P E.w E.K E.mg E.base E.tb (k + 5) (He.ma E.K (He.ga E.K "Standing") "__and__") (nextCF tab cf (.m "Standing" "__and__")) := by
  have e : nextCF tab cf (.m "Standing" "__and__") = loc (r_Standing___and__ cf) := by unfold nextCF; rw [e_Standing___and__]
  rw [e]
  obtain ⟨fd, F⟩ := G.f_Standing___and__
  exact FI.loc (d_Standing___and__ E F D A0)
theorem z_Standing___and__ (G : Fns E) : FI E.P E.w E.K E.mg E.base E.tb 0 (He.ma E.K (He.ga E.K "Standing") "__and__") (fun _ _ => .stuck) := by
  obtain ⟨fd, F⟩ := G.f_Standing___and__
  exact FI.zero (ps := ["self", "other"]) F (F.bindsN fun _ _ _ _ _ _ us hl => match us, hl with | [_, _], _ => rfl)
theorem u_Standing___eq__ (A0 : All E B frees) (G : Fns E) {cf : CF} {k : Nat} (D : DefsE E B k cf) : FI E.P E.w E.K E.mg E.base E.tb (k + 5) (He.ma E.K (He.ga E.K "Standing") "__eq__") (nextCF tab cf (.m "Standing" "__eq__")) := by
  have e : nextCF tab cf (.m "Standing" "__eq__") = loc (r_Standing___eq__ cf) := by unfold nextCF; rw [e_Standing___eq__]
  rw [e]
  obtain ⟨fd, F⟩ := G.f_Standing___eq__
  exact FI.loc (d_Standing___eq__ E F D A0)
theorem z_Standing___eq__ (G : Fns E) : FI E.P E.w E.K E.mg E.base E.tb 0 (He.ma E.K (He.ga E.K "Standing") "__eq__") (fun _ _ => .stuck) := by
  obtain ⟨fd, F⟩ := G.f_Standing___eq__
  exact FI.zero (ps := ["self", "other"]) F (F.bindsN fun _ _ _ _ _ _ us hl => match us, hl with | [_, _], _ => rfl)
theorem u_is_int (A0 : All E B frees) (G : Fns E) {cf : CF} {k : Nat} (D : DefsE E B k cf) : FI E.P E.w E.K E.mg E.base E.tb (k + 5) (He.ga E.K "is_int") (nextCF tab cf (.g "is_int")) := by
  have e : nextCF tab cf (.g "is_int") = loc (r_is_int cf) := by unfold nextCF; rw [e_is_int]
  rw [e]
  obtain ⟨fd, F⟩ := G.f_is_int
  exact FI.loc (d_is_int E F D A0)
theorem z_is_int (G : Fns E) : FI E.P E.w E.K E.mg E.base E.tb 0 (He.ga E.K "is_int") (fun _ _ => .stuck) := by
  obtain ⟨fd, F⟩ := G.f_is_int
  exact FI.zero (ps := ["value"]) F (F.bindsN fun _ _ _ _ _ _ us hl => match us, hl with | [_], _ => rfl)
theorem u_are_marks (A0 : All E B frees) (G : Fns E) {cf : CF} {k : Nat} (D : DefsE E B k cf) : FI E.P E.w E.K E.mg E.base E.tb (k + 5) (He.ga E.K "are_marks") (nextCF tab cf (.g "are_marks")) := by
  have e : nextCF tab cf (.g "are_marks") = loc (r_are_marks cf) := by unfold nextCF; rw [e_are_marks]
  rw [e]
  obtain ⟨fd, F⟩ := G.f_are_marks
  exact FI.loc (d_are_marks E F D A0)
theorem z_are_marks (G : Fns E) : FI E.P E.w E.K E.mg E.base E.tb 0 (He.ga E.K "are_marks") (fun _ _ => .stuck) := by
  obtain ⟨fd, F⟩ := G.f_are_marks
  exact FI.zero (ps := ["value"]) F (F.bindsN fun _ _ _ _ _ _ us hl => match us, hl with | [_], _ => rfl)
theorem u_check_wires (A0 : All E B frees) (G : Fns E) {cf : CF} {k : Nat} (D : DefsE E B k cf) : FI E.P E.w E.K E.mg E.base E.tb (k + 5) (He.ga E.K "check_wires") (nextCF tab cf (.g "check_wires")) := by
  have e : nextCF tab cf (.g "check_wires") = loc (r_check_wires cf) := by unfold nextCF; rw [e_check_wires]
  rw [e]
  obtain ⟨fd, F⟩ := G.f_check_wires
  exact FI.loc (d_check_wires E F D A0)
theorem z_check_wires (G : Fns E) : FI E.P E.w E.K E.mg E.base E.tb 0 (He.ga E.K "check_wires") (fun _ _ => .stuck) := by
  obtain ⟨fd, F⟩ := G.f_check_wires
  exact FI.zero (ps := ["one", "other"]) F (F.bindsN fun _ _ _ _ _ _ us hl => match us, hl with | [_, _], _ => rfl)
theorem u_merged (A0 : All E B frees) (G : Fns E) {cf : CF} {k : Nat} (D : DefsE E B k cf) : FI E.P E.w E.K E.mg E.base E.tb (k + 5) (He.ga E.K "merged") (nextCF tab cf (.g "merged")) := by
  have e : nextCF tab cf (.g "merged") = loc (r_merged cf) := by unfold nextCF; rw [e_merged]
  rw [e]
  obtain ⟨fd, F⟩ := G.f_merged
  exact FI.loc (d_merged E F D A0)
theorem z_merged (G : Fns E) : FI E.P E.w E.K E.mg E.base E.tb 0 (He.ga E.K "merged") (fun _ _ => .stuck) := by
  obtain ⟨fd, F⟩ := G.f_merged
  exact FI.zero (ps := ["marks", "one", "other"]) F (F.bindsN fun _ _ _ _ _ _ us hl => match us, hl with | [_, _, _], _ => rfl)
theorem u__law_pot (A0 : All E B frees) (G : Fns E) {cf : CF} {k : Nat} (D : DefsE E B k cf) : FI E.P E.w E.K E.mg E.base E.tb (k + 5) (He.ga E.K "_law_pot") (nextCF tab cf (.g "_law_pot")) := by
  have e : nextCF tab cf (.g "_law_pot") = loc (r__law_pot cf) := by unfold nextCF; rw [e__law_pot]
  rw [e]
  obtain ⟨fd, F⟩ := G.f__law_pot
  exact FI.loc (d__law_pot E F D A0)
theorem z__law_pot (G : Fns E) : FI E.P E.w E.K E.mg E.base E.tb 0 (He.ga E.K "_law_pot") (fun _ _ => .stuck) := by
  obtain ⟨fd, F⟩ := G.f__law_pot
  exact FI.zero (ps := ["_law_script", "_law_place"]) F (F.bindsN fun _ _ _ _ _ _ us hl => match us, hl with | [_, _], _ => rfl)
theorem u__law_take (A0 : All E B frees) (G : Fns E) {cf : CF} {k : Nat} (D : DefsE E B k cf) : FI E.P E.w E.K E.mg E.base E.tb (k + 5) (He.ga E.K "_law_take") (nextCF tab cf (.g "_law_take")) := by
  have e : nextCF tab cf (.g "_law_take") = loc (r__law_take cf) := by unfold nextCF; rw [e__law_take]
  rw [e]
  obtain ⟨fd, F⟩ := G.f__law_take
  exact FI.loc (d__law_take E F D A0)
theorem z__law_take (G : Fns E) : FI E.P E.w E.K E.mg E.base E.tb 0 (He.ga E.K "_law_take") (fun _ _ => .stuck) := by
  obtain ⟨fd, F⟩ := G.f__law_take
  exact FI.zero (ps := ["_law_pot_here", "_law_upto"]) F (F.bindsN fun _ _ _ _ _ _ us hl => match us, hl with | [_, _], _ => rfl)
theorem u__law_of (A0 : All E B frees) (G : Fns E) {cf : CF} {k : Nat} (D : DefsE E B k cf) : FI E.P E.w E.K E.mg E.base E.tb (k + 5) (He.ga E.K "_law_of") (nextCF tab cf (.g "_law_of")) := by
  have e : nextCF tab cf (.g "_law_of") = loc (r__law_of cf) := by unfold nextCF; rw [e__law_of]
  rw [e]
  obtain ⟨fd, F⟩ := G.f__law_of
  exact FI.loc (d__law_of E F D A0)
theorem z__law_of (G : Fns E) : FI E.P E.w E.K E.mg E.base E.tb 0 (He.ga E.K "_law_of") (fun _ _ => .stuck) := by
  obtain ⟨fd, F⟩ := G.f__law_of
  exact FI.zero (ps := ["_law_pot_here", "_law_some"]) F (F.bindsN fun _ _ _ _ _ _ us hl => match us, hl with | [_, _], _ => rfl)
theorem u__law_cells (A0 : All E B frees) (G : Fns E) {cf : CF} {k : Nat} (D : DefsE E B k cf) : FI E.P E.w E.K E.mg E.base E.tb (k + 5) (He.ga E.K "_law_cells") (nextCF tab cf (.g "_law_cells")) := by
  have e : nextCF tab cf (.g "_law_cells") = loc (r__law_cells cf) := by unfold nextCF; rw [e__law_cells]
  rw [e]
  obtain ⟨fd, F⟩ := G.f__law_cells
  exact FI.loc (d__law_cells E F D A0)
theorem z__law_cells (G : Fns E) : FI E.P E.w E.K E.mg E.base E.tb 0 (He.ga E.K "_law_cells") (fun _ _ => .stuck) := by
  obtain ⟨fd, F⟩ := G.f__law_cells
  exact FI.zero (ps := ["_law_script", "_law_limit"]) F (F.bindsN fun _ _ _ _ _ _ us hl => match us, hl with | [_, _], _ => rfl)
theorem u__law_odd (A0 : All E B frees) (G : Fns E) {cf : CF} {k : Nat} (D : DefsE E B k cf) : FI E.P E.w E.K E.mg E.base E.tb (k + 5) (He.ga E.K "_law_odd") (nextCF tab cf (.g "_law_odd")) := by
  have e : nextCF tab cf (.g "_law_odd") = loc (r__law_odd cf) := by unfold nextCF; rw [e__law_odd]
  rw [e]
  obtain ⟨fd, F⟩ := G.f__law_odd
  exact FI.loc (d__law_odd E F D A0)
theorem z__law_odd (G : Fns E) : FI E.P E.w E.K E.mg E.base E.tb 0 (He.ga E.K "_law_odd") (fun _ _ => .stuck) := by
  obtain ⟨fd, F⟩ := G.f__law_odd
  exact FI.zero (ps := ["_law_pot_here"]) F (F.bindsN fun _ _ _ _ _ _ us hl => match us, hl with | [_], _ => rfl)
theorem u__law_bent_value (A0 : All E B frees) (G : Fns E) {cf : CF} {k : Nat} (D : DefsE E B k cf) : FI E.P E.w E.K E.mg E.base E.tb (k + 5) (He.ga E.K "_law_bent_value") (nextCF tab cf (.g "_law_bent_value")) := by
  have e : nextCF tab cf (.g "_law_bent_value") = loc (r__law_bent_value cf) := by unfold nextCF; rw [e__law_bent_value]
  rw [e]
  obtain ⟨fd, F⟩ := G.f__law_bent_value
  exact FI.loc (d__law_bent_value E F D A0)
theorem z__law_bent_value (G : Fns E) : FI E.P E.w E.K E.mg E.base E.tb 0 (He.ga E.K "_law_bent_value") (fun _ _ => .stuck) := by
  obtain ⟨fd, F⟩ := G.f__law_bent_value
  exact FI.zero (ps := ["_law_pot_here", "_law_value"]) F (F.bindsN fun _ _ _ _ _ _ us hl => match us, hl with | [_, _], _ => rfl)
theorem u__law_all_marks (A0 : All E B frees) (G : Fns E) {cf : CF} {k : Nat} (D : DefsE E B k cf) : FI E.P E.w E.K E.mg E.base E.tb (k + 5) (He.ga E.K "_law_all_marks") (nextCF tab cf (.g "_law_all_marks")) := by
  have e : nextCF tab cf (.g "_law_all_marks") = loc (r__law_all_marks cf) := by unfold nextCF; rw [e__law_all_marks]
  rw [e]
  obtain ⟨fd, F⟩ := G.f__law_all_marks
  exact FI.loc (d__law_all_marks E F D A0)
theorem z__law_all_marks (G : Fns E) : FI E.P E.w E.K E.mg E.base E.tb 0 (He.ga E.K "_law_all_marks") (fun _ _ => .stuck) := by
  obtain ⟨fd, F⟩ := G.f__law_all_marks
  exact FI.zero (ps := ["_law_count"]) F (F.bindsN fun _ _ _ _ _ _ us hl => match us, hl with | [_], _ => rfl)
theorem u__law_drawn_marks (A0 : All E B frees) (G : Fns E) {cf : CF} {k : Nat} (D : DefsE E B k cf) : FI E.P E.w E.K E.mg E.base E.tb (k + 5) (He.ga E.K "_law_drawn_marks") (nextCF tab cf (.g "_law_drawn_marks")) := by
  have e : nextCF tab cf (.g "_law_drawn_marks") = loc (r__law_drawn_marks cf) := by unfold nextCF; rw [e__law_drawn_marks]
  rw [e]
  obtain ⟨fd, F⟩ := G.f__law_drawn_marks
  exact FI.loc (d__law_drawn_marks E F D A0)
theorem z__law_drawn_marks (G : Fns E) : FI E.P E.w E.K E.mg E.base E.tb 0 (He.ga E.K "_law_drawn_marks") (fun _ _ => .stuck) := by
  obtain ⟨fd, F⟩ := G.f__law_drawn_marks
  exact FI.zero (ps := ["_law_pot_here", "_law_count"]) F (F.bindsN fun _ _ _ _ _ _ us hl => match us, hl with | [_, _], _ => rfl)
theorem u__law_are_marks (A0 : All E B frees) (G : Fns E) {cf : CF} {k : Nat} (D : DefsE E B k cf) : FI E.P E.w E.K E.mg E.base E.tb (k + 5) (He.ga E.K "_law_are_marks") (nextCF tab cf (.g "_law_are_marks")) := by
  have e : nextCF tab cf (.g "_law_are_marks") = loc (r__law_are_marks cf) := by unfold nextCF; rw [e__law_are_marks]
  rw [e]
  obtain ⟨fd, F⟩ := G.f__law_are_marks
  exact FI.loc (d__law_are_marks E F D A0)
theorem z__law_are_marks (G : Fns E) : FI E.P E.w E.K E.mg E.base E.tb 0 (He.ga E.K "_law_are_marks") (fun _ _ => .stuck) := by
  obtain ⟨fd, F⟩ := G.f__law_are_marks
  exact FI.zero (ps := ["_law_value"]) F (F.bindsN fun _ _ _ _ _ _ us hl => match us, hl with | [_], _ => rfl)
theorem u__law_is_standing_right (A0 : All E B frees) (G : Fns E) {cf : CF} {k : Nat} (D : DefsE E B k cf) : FI E.P E.w E.K E.mg E.base E.tb (k + 5) (He.ga E.K "_law_is_standing_right") (nextCF tab cf (.g "_law_is_standing_right")) := by
  have e : nextCF tab cf (.g "_law_is_standing_right") = loc (r__law_is_standing_right cf) := by unfold nextCF; rw [e__law_is_standing_right]
  rw [e]
  obtain ⟨fd, F⟩ := G.f__law_is_standing_right
  exact FI.loc (d__law_is_standing_right E F D A0)
theorem z__law_is_standing_right (G : Fns E) : FI E.P E.w E.K E.mg E.base E.tb 0 (He.ga E.K "_law_is_standing_right") (fun _ _ => .stuck) := by
  obtain ⟨fd, F⟩ := G.f__law_is_standing_right
  exact FI.zero (ps := ["_law_marks"]) F (F.bindsN fun _ _ _ _ _ _ us hl => match us, hl with | [_], _ => rfl)
theorem u__law_is_taken_right (A0 : All E B frees) (G : Fns E) {cf : CF} {k : Nat} (D : DefsE E B k cf) : FI E.P E.w E.K E.mg E.base E.tb (k + 5) (He.ga E.K "_law_is_taken_right") (nextCF tab cf (.g "_law_is_taken_right")) := by
  have e : nextCF tab cf (.g "_law_is_taken_right") = loc (r__law_is_taken_right cf) := by unfold nextCF; rw [e__law_is_taken_right]
  rw [e]
  obtain ⟨fd, F, hc, TL⟩ := G.f__law_is_taken_right
  exact FI.loc (d__law_is_taken_right E F D A0 hc TL)
theorem z__law_is_taken_right (G : Fns E) : FI E.P E.w E.K E.mg E.base E.tb 0 (He.ga E.K "_law_is_taken_right") (fun _ _ => .stuck) := by
  obtain ⟨fd, F, _, _⟩ := G.f__law_is_taken_right
  exact FI.zero (ps := ["_law_value"]) F (F.bindsN fun _ _ _ _ _ _ us hl => match us, hl with | [_], _ => rfl)
theorem u__law_is_bare_right (A0 : All E B frees) (G : Fns E) {cf : CF} {k : Nat} (D : DefsE E B k cf) : FI E.P E.w E.K E.mg E.base E.tb (k + 5) (He.ga E.K "_law_is_bare_right") (nextCF tab cf (.g "_law_is_bare_right")) := by
  have e : nextCF tab cf (.g "_law_is_bare_right") = loc (r__law_is_bare_right cf) := by unfold nextCF; rw [e__law_is_bare_right]
  rw [e]
  obtain ⟨fd, F, hc, TL⟩ := G.f__law_is_bare_right
  exact FI.loc (d__law_is_bare_right E F D A0 hc TL)
theorem z__law_is_bare_right (G : Fns E) : FI E.P E.w E.K E.mg E.base E.tb 0 (He.ga E.K "_law_is_bare_right") (fun _ _ => .stuck) := by
  obtain ⟨fd, F, _, _⟩ := G.f__law_is_bare_right
  exact FI.zero (ps := ["_law_value"]) F (F.bindsN fun _ _ _ _ _ _ us hl => match us, hl with | [_], _ => rfl)
theorem u__law_right (A0 : All E B frees) (G : Fns E) {cf : CF} {k : Nat} (D : DefsE E B k cf) : FI E.P E.w E.K E.mg E.base E.tb (k + 5) (He.ga E.K "_law_right") (nextCF tab cf (.g "_law_right")) := by
  have e : nextCF tab cf (.g "_law_right") = loc (r__law_right cf) := by unfold nextCF; rw [e__law_right]
  rw [e]
  obtain ⟨fd, F⟩ := G.f__law_right
  exact FI.loc (d__law_right E F D A0)
theorem z__law_right (G : Fns E) : FI E.P E.w E.K E.mg E.base E.tb 0 (He.ga E.K "_law_right") (fun _ _ => .stuck) := by
  obtain ⟨fd, F⟩ := G.f__law_right
  exact FI.zero (ps := ["_law_pot_here"]) F (F.bindsN fun _ _ _ _ _ _ us hl => match us, hl with | [_], _ => rfl)
theorem u_law (A0 : All E B frees) (G : Fns E) {cf : CF} {k : Nat} (D : DefsE E B k cf) : FI E.P E.w E.K E.mg E.base E.tb (k + 5) (He.ga E.K "law") (nextCF tab cf (.g "law")) := by
  have e : nextCF tab cf (.g "law") = loc (r_law cf) := by unfold nextCF; rw [e_law]
  rw [e]
  obtain ⟨fd, F⟩ := G.f_law
  exact FI.loc (d_law E F D A0)
theorem z_law (G : Fns E) : FI E.P E.w E.K E.mg E.base E.tb 0 (He.ga E.K "law") (fun _ _ => .stuck) := by
  obtain ⟨fd, F⟩ := G.f_law
  exact FI.zero (ps := ["_law_script"]) F (F.bindsN fun _ _ _ _ _ _ us hl => match us, hl with | [_], _ => rfl)
theorem step (A0 : All E B frees) (G : Fns E) (H : Head E.K E.mg B frees "WireError") (k : Nat) (cf : CF) (D : DefsE E B k cf) : DefsE E B (k + 5) (nextCF tab cf) :=
  ⟨(all_cons ⟨u_is_int A0 G D, H.defs _ (by decide +kernel)⟩ (all_cons ⟨u_are_marks A0 G D, H.defs _ (by decide +kernel)⟩ (all_cons ⟨u_check_wires A0 G D, H.defs _ (by decide +kernel)⟩ (all_cons ⟨u_merged A0 G D, H.defs _ (by decide +kernel)⟩ (all_cons ⟨u__law_pot A0 G D, H.defs _ (by decide +kernel)⟩ (all_cons ⟨u__law_take A0 G D, H.defs _ (by decide +kernel)⟩ (all_cons ⟨u__law_of A0 G D, H.defs _ (by decide +kernel)⟩ (all_cons ⟨u__law_cells A0 G D, H.defs _ (by decide +kernel)⟩ (all_cons ⟨u__law_odd A0 G D, H.defs _ (by decide +kernel)⟩ (all_cons ⟨u__law_bent_value A0 G D, H.defs _ (by decide +kernel)⟩ (all_cons ⟨u__law_all_marks A0 G D, H.defs _ (by decide +kernel)⟩ (all_cons ⟨u__law_drawn_marks A0 G D, H.defs _ (by decide +kernel)⟩ (all_cons ⟨u__law_are_marks A0 G D, H.defs _ (by decide +kernel)⟩ (all_cons ⟨u__law_is_standing_right A0 G D, H.defs _ (by decide +kernel)⟩ (all_cons ⟨u__law_is_taken_right A0 G D, H.defs _ (by decide +kernel)⟩ (all_cons ⟨u__law_is_bare_right A0 G D, H.defs _ (by decide +kernel)⟩ (all_cons ⟨u__law_right A0 G D, H.defs _ (by decide +kernel)⟩ (all_cons ⟨u_law A0 G D, H.defs _ (by decide +kernel)⟩ all_nil)))))))))))))))))), (all_cons (u_Standing___contains__ A0 G D) (all_cons (u_Standing___or__ A0 G D) (all_cons (u_Standing___and__ A0 G D) (all_cons (u_Standing___eq__ A0 G D) all_nil)))), (all_cons (u_Standing_marks A0 G D) (all_cons (u_Standing_wires A0 G D) (all_cons (u_Standing_is_short A0 G D) all_nil))), (all_cons (u_Standing_bare A0 G D) all_nil), all_cls ((all_cons ⟨H.cls _ (by decide +kernel), u_Standing___init__ A0 G D⟩ all_nil))⟩
theorem zero (G : Fns E) (H : Head E.K E.mg B frees "WireError") : DefsE E B 0 (fun _ _ _ => .stuck) :=
  ⟨(all_cons ⟨z_is_int G, H.defs _ (by decide +kernel)⟩ (all_cons ⟨z_are_marks G, H.defs _ (by decide +kernel)⟩ (all_cons ⟨z_check_wires G, H.defs _ (by decide +kernel)⟩ (all_cons ⟨z_merged G, H.defs _ (by decide +kernel)⟩ (all_cons ⟨z__law_pot G, H.defs _ (by decide +kernel)⟩ (all_cons ⟨z__law_take G, H.defs _ (by decide +kernel)⟩ (all_cons ⟨z__law_of G, H.defs _ (by decide +kernel)⟩ (all_cons ⟨z__law_cells G, H.defs _ (by decide +kernel)⟩ (all_cons ⟨z__law_odd G, H.defs _ (by decide +kernel)⟩ (all_cons ⟨z__law_bent_value G, H.defs _ (by decide +kernel)⟩ (all_cons ⟨z__law_all_marks G, H.defs _ (by decide +kernel)⟩ (all_cons ⟨z__law_drawn_marks G, H.defs _ (by decide +kernel)⟩ (all_cons ⟨z__law_are_marks G, H.defs _ (by decide +kernel)⟩ (all_cons ⟨z__law_is_standing_right G, H.defs _ (by decide +kernel)⟩ (all_cons ⟨z__law_is_taken_right G, H.defs _ (by decide +kernel)⟩ (all_cons ⟨z__law_is_bare_right G, H.defs _ (by decide +kernel)⟩ (all_cons ⟨z__law_right G, H.defs _ (by decide +kernel)⟩ (all_cons ⟨z_law G, H.defs _ (by decide +kernel)⟩ all_nil)))))))))))))))))), (all_cons (z_Standing___contains__ G) (all_cons (z_Standing___or__ G) (all_cons (z_Standing___and__ G) (all_cons (z_Standing___eq__ G) all_nil)))), (all_cons (z_Standing_marks G) (all_cons (z_Standing_wires G) (all_cons (z_Standing_is_short G) all_nil))), (all_cons (z_Standing_bare G) all_nil), all_cls ((all_cons ⟨H.cls _ (by decide +kernel), z_Standing___init__ G⟩ all_nil))⟩
end
theorem c_Standing___init__ (n : Nat) : cfn tab (n + 1) (.m "Standing" "__init__") = loc (r_Standing___init__ (cfn tab n)) := by
  show nextCF tab (cfn tab n) _ = _
  unfold nextCF
  rw [e_Standing___init__]
theorem c_Standing_marks (n : Nat) : cfn tab (n + 1) (.m "Standing" "marks") = loc (r_Standing_marks (cfn tab n)) := by
  show nextCF tab (cfn tab n) _ = _
  unfold nextCF
  rw [e_Standing_marks]
theorem c_Standing_wires (n : Nat) : cfn tab (n + 1) (.m "Standing" "wires") = loc (r_Standing_wires (cfn tab n)) := by
  show nextCF tab (cfn tab n) _ = _
  unfold nextCF
  rw [e_Standing_wires]
theorem c_Standing_is_short (n : Nat) : cfn tab (n + 1) (.m "Standing" "is_short") = loc (r_Standing_is_short (cfn tab n)) := by
  show nextCF tab (cfn tab n) _ = _
  unfold nextCF
  rw [e_Standing_is_short]
theorem c_Standing_bare (n : Nat) : cfn tab (n + 1) (.m "Standing" "bare") = loc (r_Standing_bare (cfn tab n)) := by
  show nextCF tab (cfn tab n) _ = _
  unfold nextCF
  rw [e_Standing_bare]
theorem c_Standing___contains__ (n : Nat) : cfn tab (n + 1) (.m "Standing" "__contains__") = loc (r_Standing___contains__ (cfn tab n)) := by
  show nextCF tab (cfn tab n) _ = _
  unfold nextCF
  rw [e_Standing___contains__]
theorem c_Standing___or__ (n : Nat) : cfn tab (n + 1) (.m "Standing" "__or__") = loc (r_Standing___or__ (cfn tab n)) := by
  show nextCF tab (cfn tab n) _ = _
  unfold nextCF
  rw [e_Standing___or__]
theorem c_Standing___and__ (n : Nat) : cfn tab (n + 1) (.m "Standing" "__and__") = loc (r_Standing___and__ (cfn tab n)) := by
  show nextCF tab (cfn tab n) _ = _
  unfold nextCF
  rw [e_Standing___and__]
theorem c_Standing___eq__ (n : Nat) : cfn tab (n + 1) (.m "Standing" "__eq__") = loc (r_Standing___eq__ (cfn tab n)) := by
  show nextCF tab (cfn tab n) _ = _
  unfold nextCF
  rw [e_Standing___eq__]
theorem c_is_int (n : Nat) : cfn tab (n + 1) (.g "is_int") = loc (r_is_int (cfn tab n)) := by
  show nextCF tab (cfn tab n) _ = _
  unfold nextCF
  rw [e_is_int]
theorem c_are_marks (n : Nat) : cfn tab (n + 1) (.g "are_marks") = loc (r_are_marks (cfn tab n)) := by
  show nextCF tab (cfn tab n) _ = _
  unfold nextCF
  rw [e_are_marks]
theorem c_check_wires (n : Nat) : cfn tab (n + 1) (.g "check_wires") = loc (r_check_wires (cfn tab n)) := by
  show nextCF tab (cfn tab n) _ = _
  unfold nextCF
  rw [e_check_wires]
theorem c_merged (n : Nat) : cfn tab (n + 1) (.g "merged") = loc (r_merged (cfn tab n)) := by
  show nextCF tab (cfn tab n) _ = _
  unfold nextCF
  rw [e_merged]
theorem c__law_pot (n : Nat) : cfn tab (n + 1) (.g "_law_pot") = loc (r__law_pot (cfn tab n)) := by
  show nextCF tab (cfn tab n) _ = _
  unfold nextCF
  rw [e__law_pot]
theorem c__law_take (n : Nat) : cfn tab (n + 1) (.g "_law_take") = loc (r__law_take (cfn tab n)) := by
  show nextCF tab (cfn tab n) _ = _
  unfold nextCF
  rw [e__law_take]
theorem c__law_of (n : Nat) : cfn tab (n + 1) (.g "_law_of") = loc (r__law_of (cfn tab n)) := by
  show nextCF tab (cfn tab n) _ = _
  unfold nextCF
  rw [e__law_of]
theorem c__law_cells (n : Nat) : cfn tab (n + 1) (.g "_law_cells") = loc (r__law_cells (cfn tab n)) := by
  show nextCF tab (cfn tab n) _ = _
  unfold nextCF
  rw [e__law_cells]
theorem c__law_odd (n : Nat) : cfn tab (n + 1) (.g "_law_odd") = loc (r__law_odd (cfn tab n)) := by
  show nextCF tab (cfn tab n) _ = _
  unfold nextCF
  rw [e__law_odd]
theorem c__law_bent_value (n : Nat) : cfn tab (n + 1) (.g "_law_bent_value") = loc (r__law_bent_value (cfn tab n)) := by
  show nextCF tab (cfn tab n) _ = _
  unfold nextCF
  rw [e__law_bent_value]
theorem c__law_all_marks (n : Nat) : cfn tab (n + 1) (.g "_law_all_marks") = loc (r__law_all_marks (cfn tab n)) := by
  show nextCF tab (cfn tab n) _ = _
  unfold nextCF
  rw [e__law_all_marks]
theorem c__law_drawn_marks (n : Nat) : cfn tab (n + 1) (.g "_law_drawn_marks") = loc (r__law_drawn_marks (cfn tab n)) := by
  show nextCF tab (cfn tab n) _ = _
  unfold nextCF
  rw [e__law_drawn_marks]
theorem c__law_are_marks (n : Nat) : cfn tab (n + 1) (.g "_law_are_marks") = loc (r__law_are_marks (cfn tab n)) := by
  show nextCF tab (cfn tab n) _ = _
  unfold nextCF
  rw [e__law_are_marks]
theorem c__law_is_standing_right (n : Nat) : cfn tab (n + 1) (.g "_law_is_standing_right") = loc (r__law_is_standing_right (cfn tab n)) := by
  show nextCF tab (cfn tab n) _ = _
  unfold nextCF
  rw [e__law_is_standing_right]
theorem c__law_is_taken_right (n : Nat) : cfn tab (n + 1) (.g "_law_is_taken_right") = loc (r__law_is_taken_right (cfn tab n)) := by
  show nextCF tab (cfn tab n) _ = _
  unfold nextCF
  rw [e__law_is_taken_right]
theorem c__law_is_bare_right (n : Nat) : cfn tab (n + 1) (.g "_law_is_bare_right") = loc (r__law_is_bare_right (cfn tab n)) := by
  show nextCF tab (cfn tab n) _ = _
  unfold nextCF
  rw [e__law_is_bare_right]
theorem c__law_right (n : Nat) : cfn tab (n + 1) (.g "_law_right") = loc (r__law_right (cfn tab n)) := by
  show nextCF tab (cfn tab n) _ = _
  unfold nextCF
  rw [e__law_right]
theorem c_law (n : Nat) : cfn tab (n + 1) (.g "law") = loc (r_law (cfn tab n)) := by
  show nextCF tab (cfn tab n) _ = _
  unfold nextCF
  rw [e_law]
def csOf (K : PySem.W.Frag) : List (Addr × Addr) := [He.cT K ("_law_is_taken_right", none), He.cT K ("_law_is_bare_right", none)]
theorem code_of {K : PySem.W.Frag} {x qual : Str} {params : Arguments} {body : List Stmt} {scope : Scope} {fd : FuncData} (F : FunD K x qual params body scope [] [] (He.fAd K (x, none)) fd) : fd.code = .ref (He.cT K (x, none)).1 := by
  obtain ⟨oc, od, dV, kV, doc, pm, an, cdv, ct, osl, rfl, lk, hcd, _, _⟩ := F.ex
  obtain ⟨c, rfl⟩ := He.codeIn_ref hcd
  exact congrArg Value.ref (He.codeOf_eq (p := (x, none)) lk rfl).symm
theorem fns_of {E : En} (c : SaysC chk fn E.K) (H : Head E.K E.mg B frees "WireError") (hT : ∀ p ∈ csOf E.K, TabB E.base E.mg p.1 p.2) (htb : E.tb = tbOf E.K) (mT : E.mg "_law_told" = some (.ref (He.ga E.K "_law_told"))) (uq : tbUq (tbOf E.K) = true) : Fns E := by
  obtain ⟨d0, F0⟩ := c.def_ 0 (d := a_Standing___init__) rfl
  obtain ⟨d1, F1⟩ := c.def_ 1 (d := a_Standing_marks) rfl
  obtain ⟨d2, F2⟩ := c.def_ 2 (d := a_Standing_wires) rfl
  obtain ⟨d3, F3⟩ := c.def_ 3 (d := a_Standing_is_short) rfl
  obtain ⟨d4, F4⟩ := c.def_ 4 (d := a_Standing_bare) rfl
  obtain ⟨d5, F5⟩ := c.def_ 5 (d := a_Standing___contains__) rfl
  obtain ⟨d6, F6⟩ := c.def_ 6 (d := a_Standing___or__) rfl
  obtain ⟨d7, F7⟩ := c.def_ 7 (d := a_Standing___and__) rfl
  obtain ⟨d8, F8⟩ := c.def_ 8 (d := a_Standing___eq__) rfl
  obtain ⟨d9, F9⟩ := c.def_ 9 (d := a_is_int) rfl
  obtain ⟨d10, F10⟩ := c.def_ 10 (d := a_are_marks) rfl
  obtain ⟨d11, F11⟩ := c.def_ 11 (d := a_check_wires) rfl
  obtain ⟨d12, F12⟩ := c.def_ 12 (d := a_merged) rfl
  obtain ⟨d13, F13⟩ := c.def_ 13 (d := a__law_pot) rfl
  obtain ⟨d14, F14⟩ := c.def_ 14 (d := a__law_take) rfl
  obtain ⟨d15, F15⟩ := c.def_ 15 (d := a__law_of) rfl
  obtain ⟨d16, F16⟩ := c.def_ 16 (d := a__law_cells) rfl
  obtain ⟨d17, F17⟩ := c.def_ 17 (d := a__law_odd) rfl
  obtain ⟨d18, F18⟩ := c.def_ 18 (d := a__law_bent_value) rfl
  obtain ⟨d19, F19⟩ := c.def_ 19 (d := a__law_all_marks) rfl
  obtain ⟨d20, F20⟩ := c.def_ 20 (d := a__law_drawn_marks) rfl
  obtain ⟨d21, F21⟩ := c.def_ 21 (d := a__law_are_marks) rfl
  obtain ⟨d22, F22⟩ := c.def_ 22 (d := a__law_is_standing_right) rfl
  obtain ⟨d23, F23⟩ := c.def_ 23 (d := a__law_is_taken_right) rfl
  obtain ⟨d24, F24⟩ := c.def_ 24 (d := a__law_is_bare_right) rfl
  obtain ⟨d25, F25⟩ := c.def_ 25 (d := a__law_right) rfl
  obtain ⟨d26, F26⟩ := c.def_ 26 (d := a_law) rfl
  obtain ⟨dT, FT⟩ := c.def_ 28 (d := a_told) rfl
  have m23 : ((He.cT E.K ("_law_is_taken_right", none)).2, (envOfC "_law_is_taken_right" (defScope s__law_is_taken_right) 0 0 .none).qual ++ "<lambda>") ∈ tbOf E.K := List.mem_of_getElem? (i := 0) rfl
  have T23 : Tolds E "WireError" "_law_told" "_law_look" sTold nTold (He.cT E.K ("_law_is_taken_right", none)) (envOfC "_law_is_taken_right" (defScope s__law_is_taken_right) 0 0 .none).qual := ⟨mT, ⟨dT, FT, FT.bindsN fun _ _ _ _ _ _ us hl => match us, hl with | [_], _ => rfl⟩, scTold, rfl, Or.inl rfl, fun X cdg e1 e2 e3 e4 e5 => told_ok (by rw [e3, e4]; exact (H.eat _ (by decide +kernel)).2) cdg, hT _ (List.mem_of_getElem? (i := 0) rfl), by rw [htb]; exact m23, fun p hp e => tbUq_ok uq m23 p (by rw [← htb]; exact hp) e, rfl, rfl, rfl⟩
  have m24 : ((He.cT E.K ("_law_is_bare_right", none)).2, (envOfC "_law_is_bare_right" (defScope s__law_is_bare_right) 0 0 .none).qual ++ "<lambda>") ∈ tbOf E.K := List.mem_of_getElem? (i := 1) rfl
  have T24 : Tolds E "WireError" "_law_told" "_law_look" sTold nTold (He.cT E.K ("_law_is_bare_right", none)) (envOfC "_law_is_bare_right" (defScope s__law_is_bare_right) 0 0 .none).qual := ⟨mT, ⟨dT, FT, FT.bindsN fun _ _ _ _ _ _ us hl => match us, hl with | [_], _ => rfl⟩, scTold, rfl, Or.inl rfl, fun X cdg e1 e2 e3 e4 e5 => told_ok (by rw [e3, e4]; exact (H.eat _ (by decide +kernel)).2) cdg, hT _ (List.mem_of_getElem? (i := 1) rfl), by rw [htb]; exact m24, fun p hp e => tbUq_ok uq m24 p (by rw [← htb]; exact hp) e, rfl, rfl, rfl⟩
  exact ⟨⟨d0, F0⟩, ⟨d1, F1⟩, ⟨d2, F2⟩, ⟨d3, F3⟩, ⟨d4, F4⟩, ⟨d5, F5⟩, ⟨d6, F6⟩, ⟨d7, F7⟩, ⟨d8, F8⟩, ⟨d9, F9⟩, ⟨d10, F10⟩, ⟨d11, F11⟩, ⟨d12, F12⟩, ⟨d13, F13⟩, ⟨d14, F14⟩, ⟨d15, F15⟩, ⟨d16, F16⟩, ⟨d17, F17⟩, ⟨d18, F18⟩, ⟨d19, F19⟩, ⟨d20, F20⟩, ⟨d21, F21⟩, ⟨d22, F22⟩, ⟨d23, F23, code_of F23, T23⟩, ⟨d24, F24, code_of F24, T24⟩, ⟨d25, F25⟩, ⟨d26, F26⟩⟩
end Q01

set_option Elab.async false
set_option linter.all false
set_option maxRecDepth 100000
set_option maxHeartbeats 0
namespace Q01
open PySem PySem.Spec PyProof.Rows L2 Lw LamX Py
theorem facts {P : Program} {w : World} {K : PySem.W.Frag} {h : Heap} {mg : Str → Option Value} {f : Addr} (X : K.In h) (G : h.Ns mainGlobals mg) (hfa : mg ("law" : Str) = some (.ref f)) (c : SaysC chk fn K)
    (run : ∀ ns : List Int, ns.length ≤ 63 → ∃ h', r_law (cfn tab 30) [.t (.scr (ns.map .int))] [] = .ok (.t (.bl true)) h') :
    ∃ fd : FuncData, (∀ (s : Shared) (v : Value), BindsTo s fd ⟨[v], []⟩ [("_law_script", v)]) ∧ ∀ base : Heap, K.In base → base.Ns mainGlobals mg → (∀ p ∈ csOf K, TabB base mg p.1 p.2) → FnG P w K mg base CX0 155 f fd ["_law_script"] (spScr K (tbOf K) 63) := by
  have ck := c.chk
  unfold chk at ck
  obtain ⟨k1, k2⟩ := He.ba ck
  obtain ⟨k3, k4⟩ := He.ba k2
  have H := head_of X G k1
  obtain ⟨fd, FL⟩ := c.def_ 26 (d := a_law) rfl
  have e := hfa.symm.trans (H.defs "law" (by decide +kernel))
  cases e
  have b := FunD.bindsA (ps := ["_law_script"]) FL fun _ _ _ _ _ _ us hl => match us, hl with | [_], _ => rfl
  refine ⟨fd, fun s v => b s [v] rfl, fun base _ _ TB => ?_⟩
  obtain ⟨dI, FI_⟩ := c.def_ 27 (d := a_errI) rfl
  let E : En := ⟨P, w, K, mg, base, tbOf K, He.ma K (He.ga K "WireError") "__init__"⟩
  have A0 : All E B frees := ⟨H.fa, H.nm, ok_errI FI_, H.ety, H.eat⟩
  have GF : Fns E := fns_of (E := E) c H TB rfl (PySem.W.mg_of X G (He.eqO_ok k3)) k4
  have D := defs_up (E := E) (step A0 GF H) (zero GF H) 30
  exact law_fn (dF_law E FL D A0) rfl run
end Q01
open PySem PySem.W PySem.Calls PyProof.Rows
theorem Q01.holds (run : ∀ ns : List Int, ns.length ≤ 63 → ∃ h', Q01.r_law (Py.cfn Q01.tab 30) [.t (.scr (ns.map .int))] [] = .ok (.t (.bl true)) h') : PySem.Challenge.rw_landingwires_k01_standings_by_their_mark.Holds := by
  w_on; o_law
  refine HandSHeadRun.head_any (r := Q01.R) (q := view Q01.R.prog [30]) (H := Q01.hk) (ob := Q01.ob) (M := 8000) (loose := Q01.loose) (d := HandSHeadRun.topDef Q01.R.prog 30) (kwd := []) Q01.ob_eq
    (by kernel_rfl) (fun s => by kernel_rfl) Q01.run (by kernel_rfl) (by kernel_rfl) (by kernel_rfl) (by rfl) (by first | assumption | decide +kernel) (by decide +kernel) ⟨rfl, rfl, rfl, rfl, rfl, by decide +kernel⟩ ?hw ?hc
  case hw => w_witness2
  case hc =>
    refine Lw.walkGT (l := PySem.Challenge.rw_landingwires_k01_standings_by_their_mark) (n := 63) (k := 155) (x := "_law_script") (CX := L2.CX0) rfl (by decide) (by kernel_rfl) ⟨rfl, by decide, by decide⟩ ?F (fun _ _ _ _ z => z)
    intro w mg fa h Y G hmg0
    obtain ⟨K, KX, c⟩ := Y
    have hmg : mg ("law" : PySem.Str) = some (.ref fa) := by
      have e : (HandSHeadRun.topDef Q01.R.prog 30).name = ("law" : PySem.Str) := by kernel_rfl
      rw [← e]
      exact hmg0
    obtain ⟨fd, hb, hF⟩ := Q01.facts (P := PySem.Challenge.rw_landingwires_k01_standings_by_their_mark.prog) (w := w) KX G hmg c.c run
    have al : ∀ {Z : Addr × Addr → Prop}, (∀ d ∈ Q01.tf, Z (He.cT K d)) → ∀ p ∈ Q01.csOf K, Z p := fun z p hp => by
      have e : Q01.csOf K = Q01.tf.map (He.cT K) := rfl
      rw [e] at hp
      obtain ⟨d, hd, rfl⟩ := List.mem_map.mp hp
      exact z d hd
    refine ⟨K, Q01.csOf K, fd, Py.spScr K (Q01.tbOf K) 63, KX, al c.empty, al c.out, al c.hd, hb, fun H a ns hl hT hS => ⟨a, ns, rfl, hl, hS, fun p hp => ?_, fun _ => rfl⟩, fun base k1 k2 TB => hF base k1 k2 TB⟩
    have e : (Q01.tbOf K).map Prod.fst = (Q01.csOf K).map Prod.snd := rfl
    have hp2 : p.1 ∈ (Q01.csOf K).map Prod.snd := by rw [← e]; exact List.mem_map_of_mem hp
    obtain ⟨q, hq, eq⟩ := List.mem_map.mp hp2
    have hH := hT q hq
    rw [eq] at hH
    exact ⟨_, hH, trivial, fun _ _ z => by cases z⟩

set_option Elab.async false
set_option linter.all false
set_option maxRecDepth 100000
set_option maxHeartbeats 4000000
namespace Q01
open PySem PySem.Spec PyProof.Rows L2 Lw LamX Py
abbrev cf (n : Nat) : CF := cfn tab n
theorem tk_ (n : Nat) : cf (n + 1) (.g "_law_take") = loc (runDef false 2 5 takeB) := c__law_take n
theorem of_ (n : Nat) : cf (n + 1) (.g "_law_of") = loc (runDef false 2 2 (ofB (cf n))) := c__law_of n
theorem pot_ (n : Nat) : cf (n + 1) (.g "_law_pot") = loc (runDef true 2 5 potB) := c__law_pot n
theorem cells_ (n : Nat) : cf (n + 1) (.g "_law_cells") = loc (runDef false 2 2 cellsB) := c__law_cells n
/-- a small thing -/
def smD : Option PyData → Bool
  | some d => d.showable && (decide (cost d ≤ 100) && decide (d.depth ≤ 2))
  | none => false
def Sm (x : T) : Bool := x.flat && smD x.toD
def isI : T → Bool
  | .int _ => true
  | _ => false
theorem is_int_at (n : Nat) (h : Hs) (t : T) (ht : t.flat = true) : cf (n + 1) (.g "is_int") [.t t] h = .ok (.t (.bl (isI t))) h := by
  rw [show cf (n + 1) (.g "is_int") = loc (r_is_int (cf n)) from c_is_int n]
  have e : r_is_int (cf n) [.t t] [] = .ok (.t (.bl (isI t))) [] := by
    cases t <;> first | rfl | (cases ht; done)
  exact loc_none rfl e
/-- the mark of one thing -/
def okm (xs : List T) (i : Nat) : T → Bool
  | .int m => decide (0 ≤ m) && (decide (m ≤ i) && (match xs[m.toNat]? with | some y => eqF y (.int m) | none => false))
  | _ => false
def allm (xs : List T) : Nat → List T → Bool
  | _, [] => true
  | i, x :: r => okm xs i x && allm xs (i + 1) r
def isM : T → Bool
  | .tup xs => decide (3 ≤ xs.length) && (decide (xs.length ≤ 6) && allm xs 0 xs)
  | _ => false
theorem flat_eq {B : Tbl} {cf : CF} {y : T} {m : Int} {env : Ev} {h : Hs} {g1' g2' : Ev → M RV} (hy : y.flat = true) (e1 : g1' env h = .ok (.t y) h) (e2 : g2' env h = .ok (.t (.int m)) h) : g2 (bySelf (ownEq B cf) (gEq false)) g1' g2' env h = .ok (.t (.bl (eqF y (.int m)))) h := by
  unfold g2
  rw [e1]
  show (g2' env h).bind _ = _
  rw [e2]
  have : Py.eqT y (.int m) = some (eqF y (.int m)) := by
    unfold Py.eqT
    rw [if_pos (by rw [hy]; rfl)]
  cases y <;> first | (cases hy; done) | (simp [Res.bind, bySelf, gEq, look, this])
abbrev markE (cf : CF) : Ev → M RV := vAnd (gL (cf (.g "is_int")) (Py.gCons (gVar 2) Py.gNil)) (vAnd (gCh (gOrd .LtE) (gOrd .LtE) (gC (.int 0)) (gVar 2) (gVar 1)) (g2 (bySelf (ownEq B cf) (gEq false)) (g2 gIdx (gVar 0) (gVar 2)) (gVar 2)))
theorem markE_ok (n : Nat) (xs : List T) (i : Nat) (x : T) (h : Hs) (hf : xs.all T.flat = true) (hx : x.flat = true) :
    markE (cf (n + 1)) [some (.t (.tup xs)), some (.t (.int i)), some (.t x)] h = .ok (.t (.bl (okm xs i x))) h ∨ ¬ i < xs.length := by
  by_cases hi : i < xs.length
  · left
    have e1 : gL (cf (n + 1) (.g "is_int")) (Py.gCons (gVar 2) Py.gNil) [some (.t (.tup xs)), some (.t (.int i)), some (.t x)] h = .ok (.t (.bl (isI x))) h := by
      have := is_int_at n h x hx
      simp [gL, Py.gCons, Py.gNil, gVar, Res.bind, this]
    unfold markE vAnd
    rw [e1]
    cases x with
    | int m =>
      have e2 : gCh (gOrd .LtE) (gOrd .LtE) (gC (.int 0)) (gVar 2) (gVar 1) [some (.t (.tup xs)), some (.t (.int i)), some (.t (.int m))] h = .ok (.t (.bl (decide (0 ≤ m) && decide (m ≤ i)))) h := by
        by_cases h0 : 0 ≤ m <;> simp [gCh, gC, gVar, gOrd, look, ordT, noE, asB, Res.bind, h0]
      simp only [Res.bind, isI, asB, if_true]
      rw [e2]
      by_cases hm : 0 ≤ m ∧ m ≤ i
      · have hlt : m.toNat < xs.length := by omega
        have e3 : g2 gIdx (gVar 0) (gVar 2) [some (.t (.tup xs)), some (.t (.int i)), some (.t (.int m))] h = .ok (.t xs[m.toNat]) h := by
          have hlt2 : m < xs.length := by omega
          simp [g2, gIdx, gVar, look, idxT, atI, ixN, Res.bind, hm.1, hlt, hlt2]
        have hy : (xs[m.toNat]).flat = true := List.all_eq_true.mp hf _ (List.getElem_mem hlt)
        have e4 := flat_eq (B := B) (cf := cf (n + 1)) (g1' := g2 gIdx (gVar 0) (gVar 2)) (g2' := gVar 2) hy e3 rfl
        simp only [Res.bind, asB, hm.1, hm.2, decide_true, Bool.and_true, if_true]
        rw [e4]
        simp [okm, List.getElem?_eq_getElem hlt, hm.1, hm.2]
      · have : (decide (0 ≤ m) && decide (m ≤ i)) = false := by
          rw [Bool.and_eq_false_iff, decide_eq_false_iff_not, decide_eq_false_iff_not]
          omega
        rw [this]
        have o : okm xs i (.int m) = false := by
          show (decide (0 ≤ m) && (decide (m ≤ i) && _)) = false
          rw [← Bool.and_assoc, this]
          rfl
        rw [o]
        rfl
    | _ => first | rfl | (cases hx; done)
  · right
    exact hi
theorem enum_map (xs : List T) (n : Nat) (hf : xs.all T.flat = true) (h : Hs) : ∀ (ys : List T) (i : Nat), i + ys.length ≤ xs.length → ys.all T.flat = true →
    ∃ bs : List Bool, lcAll (lcStep (aTup 2 (aCons (aName 1) (aCons (aName 2) aNil))) cYes (markE (cf (n + 1))) [some (.t (.tup xs)), none, none]) (enumT i ys) h = .ok (bs.map .bl) h ∧ bs.all id = allm xs i ys ∧ bs.length = ys.length
  | [], i, _, _ => ⟨[], rfl, rfl, rfl⟩
  | y :: ys, i, hl, hy => by
    rw [List.all_cons, Bool.and_eq_true] at hy
    rw [List.length_cons] at hl
    obtain ⟨bs, e1, e2, e3⟩ := enum_map xs n hf h ys (i + 1) (by omega) hy.2
    have em := (markE_ok n xs i y h hf hy.1).resolve_right (fun z => z (by omega))
    refine ⟨okm xs i y :: bs, ?_, ?_, by rw [List.length_cons, List.length_cons, e3]⟩
    · unfold enumT lcAll
      have : lcStep (aTup 2 (aCons (aName 1) (aCons (aName 2) aNil))) cYes (markE (cf (n + 1))) [some (.t (.tup xs)), none, none] (.tup [.int i, y]) h = .ok (some (.bl (okm xs i y))) h := by
        unfold lcStep
        have ea : aTup 2 (aCons (aName 1) (aCons (aName 2) aNil)) (.t (.tup [.int i, y])) [some (.t (.tup xs)), none, none] h = some [some (.t (.tup xs)), some (.t (.int i)), some (.t y)] := by
          simp [aTup, aCons, aName, aNil, look]
        rw [ea]
        show ((markE (cf (n + 1)) _ h).bind _) = _
        rw [em]
        rfl
      rw [this]
      dsimp only
      rw [e1]
      rfl
    · rw [List.all_cons, e2]
      rfl
theorem all_bl (bs : List Bool) : allOf blOf (bs.map T.bl) = some bs := by
  induction bs with
  | nil => rfl
  | cons b bs ih =>
    rw [List.map_cons]
    unfold allOf
    rw [ih]
    rfl
theorem are_marks_tup (n : Nat) (xs : List T) (hf : xs.all T.flat = true) : r_are_marks (cf (n + 1)) [.t (.tup xs)] [] = .ok (.t (.bl (isM (.tup xs)))) [] := by
  have e0 : gL (gR2 (fIs B)) (Py.gCons (gVar 0) (Py.gCons (gC (.cl (.ty "tuple"))) Py.gNil)) [some (.t (.tup xs)), none, none] [] = .ok (.t (.bl true)) [] := rfl
  have e1 : gCh (gOrd .LtE) (gOrd .LtE) (g2 (gBin false .Add) (gC (.int 1)) (gC (.int 2))) (gL (gR1 fLen) (Py.gCons (gVar 0) Py.gNil)) (g2 (gBin false .Add) (gC (.int 4)) (gC (.int 2))) [some (.t (.tup xs)), none, none] [] = .ok (.t (.bl (decide (3 ≤ xs.length) && decide (xs.length ≤ 6)))) [] := by
    by_cases h3 : 3 ≤ xs.length
    · have h3' : (3 : Int) ≤ xs.length := by omega
      have h6 : decide ((xs.length : Int) ≤ 6) = decide (xs.length ≤ 6) := decide_eq_decide.mpr (by omega)
      simp [gCh, gC, g2, gL, gR1, fLen, lenT, Py.gCons, Py.gNil, gBin, binOpT, Py.fresh, gVar, gOrd, look, ordT, noE, asB, Res.bind, h3, h3', h6]
    · have h3' : ¬ (3 : Int) ≤ xs.length := by omega
      simp [gCh, gC, g2, gL, gR1, fLen, lenT, Py.gCons, Py.gNil, gBin, binOpT, Py.fresh, gVar, gOrd, look, ordT, noE, asB, Res.bind, h3, h3']
  unfold r_are_marks runDef b_are_marks
  by_cases hl : 3 ≤ xs.length ∧ xs.length ≤ 6
  · obtain ⟨bs, q1, q2, q3⟩ := enum_map xs n hf [] xs 0 (by omega) hf
    have e2 : gLc false (Py.iEnumA (Py.gCons (gVar 0) Py.gNil)) (aTup 2 (aCons (aName 1) (aCons (aName 2) aNil))) cYes (markE (cf (n + 1))) [1, 2] [some (.t (.tup xs)), none, none] [] = .ok (.t (.lst (bs.map .bl))) [] := by
      unfold gLc
      have : Py.iEnumA (Py.gCons (gVar 0) Py.gNil) [some (.t (.tup xs)), none, none] [] = .ok (enumT 0 xs) [] := rfl
      rw [this]
      show (match lcAll _ (enumT 0 xs) [] with | .ok us h2 => Py.fresh false (.lst us) h2 | _ => .stuck) = _
      have w : wipeE [some (.t (.tup xs)), none, none] [1, 2] = [some (.t (.tup xs)), none, none] := rfl
      rw [w, q1]
      unfold Py.fresh
      dsimp only
      rw [if_pos (by rw [List.length_map]; exact small_line (by omega))]
      rfl
    have e3 : gL (gR1 fAll) (Py.gCons (gLc false (Py.iEnumA (Py.gCons (gVar 0) Py.gNil)) (aTup 2 (aCons (aName 1) (aCons (aName 2) aNil))) cYes (markE (cf (n + 1))) [1, 2]) Py.gNil) [some (.t (.tup xs)), none, none] [] = .ok (.t (.bl (isM (.tup xs)))) [] := by
      rw [gL1 e2]
      have := all_bl bs
      simp [gR1, look, fAll, Py.listOf, this, isM, hl.1, hl.2, ← q2]
    simp [sSeq, sIf, bOr, bNot, gTru, gAsB, e0, e1, hl.1, hl.2, Res.bind, Res.sb, SRes.then, tru, look, truth, asB, sNext, sRet, e3, defEnd]
  · have hb : (decide (3 ≤ xs.length) && decide (xs.length ≤ 6)) = false := by
      rw [Bool.and_eq_false_iff, decide_eq_false_iff_not, decide_eq_false_iff_not]
      omega
    have hm : isM (.tup xs) = false := by
      show (decide (3 ≤ xs.length) && (decide (xs.length ≤ 6) && allm xs 0 xs)) = false
      rw [← Bool.and_assoc, hb]
      rfl
    rw [hm]
    rw [hb] at e1
    simp [sSeq, sIf, bOr, bNot, gTru, gAsB, e0, e1, Res.bind, Res.sb, SRes.then, tru, look, truth, asB, sNext, sRet, gC, defEnd]
end Q01

set_option Elab.async false
set_option linter.all false
set_option maxRecDepth 100000
set_option maxHeartbeats 4000000
namespace Q01
open PySem PySem.Spec PyProof.Rows L2 Lw LamX Py
/-- the law's first look at a mark -/
def inm (i : Nat) : T → Bool
  | .int m => decide (0 ≤ m) && decide (m ≤ i)
  | _ => false
abbrev nomE : Ev → M Bool := bOr (bNot (gTru (gL (gR2 (fIs B)) (Py.gCons (gVar 2) (Py.gCons (gC (.cl (.ty "int"))) Py.gNil))))) (bOr (gTru (gL (gR2 (fIs B)) (Py.gCons (gVar 2) (Py.gCons (gC (.cl (.ty "bool"))) Py.gNil)))) (bNot (gAsB (gCh (gOrd .LtE) (gOrd .LtE) (gC (.int 0)) (gVar 2) (gVar 1)))))
theorem nomE_ok (v0 : Option RV) (i : Nat) (x : T) (h : Hs) (hx : x.flat = true) : nomE [v0, some (.t (.int i)), some (.t x)] h = .ok (!(inm i x)) h := by
  cases x with
  | int m =>
    have e2 : gCh (gOrd .LtE) (gOrd .LtE) (gC (.int 0)) (gVar 2) (gVar 1) [v0, some (.t (.int i)), some (.t (.int m))] h = .ok (.t (.bl (decide (0 ≤ m) && decide (m ≤ i)))) h := by
      by_cases h0 : 0 ≤ m <;> simp [gCh, gC, gVar, gOrd, look, ordT, noE, asB, Res.bind, h0]
    have a1 : gL (gR2 (fIs B)) (Py.gCons (gVar 2) (Py.gCons (gC (.cl (.ty "int"))) Py.gNil)) [v0, some (.t (.int i)), some (.t (.int m))] h = .ok (.t (.bl true)) h := rfl
    have a2 : gL (gR2 (fIs B)) (Py.gCons (gVar 2) (Py.gCons (gC (.cl (.ty "bool"))) Py.gNil)) [v0, some (.t (.int i)), some (.t (.int m))] h = .ok (.t (.bl false)) h := rfl
    simp [nomE, bOr, bNotB (gTruB a1), gTruB a2, bNotB (gAsBB e2), Res.bind, inm]
  | _ => first | rfl | (cases hx; done)
abbrev scanB : SM := sSeq (sIf nomE (sSeq (sRet (gC (.bl false))) sNext) sNext) sNext
def alli : Nat → List T → Bool
  | _, [] => true
  | i, x :: r => inm i x && alli (i + 1) r
theorem scan_ok (v0 : Option RV) (h : Hs) : ∀ (ys : List T) (i : Nat) (x1 x2 : Option RV), ys.all T.flat = true →
    (alli i ys = true → ∃ y1 y2, forL (turn (aTup 2 (aCons (aName 1) (aCons (aName 2) aNil))) scanB) (enumT i ys) [v0, x1, x2] h = .next [v0, y1, y2] h) ∧
    (alli i ys = false → forL (turn (aTup 2 (aCons (aName 1) (aCons (aName 2) aNil))) scanB) (enumT i ys) [v0, x1, x2] h = .ret (.t (.bl false)) h)
  | [], i, x1, x2, _ => ⟨fun _ => ⟨x1, x2, rfl⟩, fun z => by cases z⟩
  | y :: ys, i, x1, x2, hf => by
    rw [List.all_cons, Bool.and_eq_true] at hf
    have et : turn (aTup 2 (aCons (aName 1) (aCons (aName 2) aNil))) scanB (.tup [.int i, y]) [v0, x1, x2] h = scanB [v0, some (.t (.int i)), some (.t y)] h := by
      simp [turn, aTup, aCons, aName, aNil, look]
    have en := nomE_ok v0 i y h hf.1
    cases hm : inm i y with
    | true =>
      rw [hm] at en
      have e1 : scanB [v0, some (.t (.int i)), some (.t y)] h = .next [v0, some (.t (.int i)), some (.t y)] h := by
        unfold scanB
        rw [sSeqN (env1 := [v0, some (.t (.int i)), some (.t y)]) (h1 := h)]
        · rfl
        · rw [sIfF en]
          rfl
      obtain ⟨r1, r2⟩ := scan_ok v0 h ys (i + 1) (some (.t (.int i))) (some (.t y)) hf.2
      have ef : forL (turn (aTup 2 (aCons (aName 1) (aCons (aName 2) aNil))) scanB) (enumT i (y :: ys)) [v0, x1, x2] h = forL (turn (aTup 2 (aCons (aName 1) (aCons (aName 2) aNil))) scanB) (enumT (i + 1) ys) [v0, some (.t (.int i)), some (.t y)] h := by
        show forL _ (.tup [.int i, y] :: enumT (i + 1) ys) _ _ = _
        rw [forL, et, e1]
      rw [ef]
      unfold alli
      rw [hm, Bool.true_and]
      exact ⟨r1, r2⟩
    | false =>
      rw [hm] at en
      have e1 : scanB [v0, some (.t (.int i)), some (.t y)] h = .ret (.t (.bl false)) h := by
        unfold scanB
        rw [sSeqR (v := .t (.bl false)) (h1 := h)]
        rw [sIfT en]
        rfl
      have ef : forL (turn (aTup 2 (aCons (aName 1) (aCons (aName 2) aNil))) scanB) (enumT i (y :: ys)) [v0, x1, x2] h = .ret (.t (.bl false)) h := by
        show forL _ (.tup [.int i, y] :: enumT (i + 1) ys) _ _ = _
        rw [forL, et, e1]
      rw [ef]
      unfold alli
      rw [hm, Bool.false_and]
      exact ⟨fun z => (by cases z), fun _ => rfl⟩
def eqm (xs : List T) : T → Bool
  | .int m => match xs[m.toNat]? with | some y => eqF y (.int m) | none => false
  | _ => false
theorem allm_split (xs : List T) : ∀ (ys : List T) (i : Nat), allm xs i ys = (alli i ys && ys.all (eqm xs))
  | [], _ => rfl
  | y :: ys, i => by
    unfold allm alli
    rw [allm_split xs ys (i + 1), List.all_cons]
    have : okm xs i y = (inm i y && eqm xs y) := by
      cases y with
      | int m =>
        show (decide (0 ≤ m) && (decide (m ≤ i) && _)) = ((decide (0 ≤ m) && decide (m ≤ i)) && _)
        rw [Bool.and_assoc]
        rfl
      | _ => rfl
    rw [this]
    cases inm i y <;> cases eqm xs y <;> cases alli (i + 1) ys <;> rfl
abbrev eqE (cf : CF) : Ev → M RV := g2 (bySelf (ownEq B cf) (gEq false)) (g2 gIdx (gVar 0) (gVar 2)) (gVar 2)
theorem eqs_map (cf : CF) (xs : List T) (x1 : Option RV) (hf : xs.all T.flat = true) (h : Hs) : ∀ (ys : List T) (i : Nat), alli i ys = true → i + ys.length ≤ xs.length →
    lcAll (lcStep (aName 2) cYes (eqE cf) [some (.t (.tup xs)), x1, none]) ys h = .ok (ys.map fun y => .bl (eqm xs y)) h
  | [], _, _, _ => rfl
  | y :: ys, i, ha, hl => by
    unfold alli at ha
    rw [Bool.and_eq_true] at ha
    rw [List.length_cons] at hl
    have ih := eqs_map cf xs x1 hf h ys (i + 1) ha.2 (by omega)
    cases y with
    | int m =>
      have hm := ha.1
      unfold inm at hm
      rw [Bool.and_eq_true, decide_eq_true_eq, decide_eq_true_eq] at hm
      have hlt : m.toNat < xs.length := by omega
      have e3 : g2 gIdx (gVar 0) (gVar 2) [some (.t (.tup xs)), x1, some (.t (.int m))] h = .ok (.t xs[m.toNat]) h := by
        have hlt2 : m < xs.length := by omega
        simp [g2, gIdx, gVar, look, idxT, atI, ixN, Res.bind, hm.1, hlt, hlt2]
      have hy : (xs[m.toNat]).flat = true := List.all_eq_true.mp hf _ (List.getElem_mem hlt)
      have e4 := flat_eq (B := B) (cf := cf) (g1' := g2 gIdx (gVar 0) (gVar 2)) (g2' := gVar 2) hy e3 rfl
      have e5 : lcStep (aName 2) cYes (eqE cf) [some (.t (.tup xs)), x1, none] (.int m) h = .ok (some (.bl (eqm xs (.int m)))) h := by
        unfold lcStep
        show ((eqE cf [some (.t (.tup xs)), x1, some (.t (.int m))] h).bind _) = _
        unfold eqE
        rw [e4]
        have q : eqm xs (.int m) = eqF xs[m.toNat] (.int m) := by
          show (match xs[m.toNat]? with | some y => eqF y (.int m) | none => false) = _
          rw [List.getElem?_eq_getElem hlt]
        rw [q]
        rfl
      unfold lcAll
      rw [e5]
      dsimp only
      rw [ih]
      rfl
    | _ => cases ha.1
theorem law_are_marks_tup (n : Nat) (xs : List T) (hf : xs.all T.flat = true) : r__law_are_marks (cf (n + 1)) [.t (.tup xs)] [] = .ok (.t (.bl (isM (.tup xs)))) [] := by
  have e0 : gL (gR2 (fIs B)) (Py.gCons (gVar 0) (Py.gCons (gC (.cl (.ty "tuple"))) Py.gNil)) [some (.t (.tup xs)), none, none] [] = .ok (.t (.bl true)) [] := rfl
  have e1 : gCh (gOrd .LtE) (gOrd .LtE) (gC (.int 3)) (gL (gR1 fLen) (Py.gCons (gVar 0) Py.gNil)) (gC (.int 6)) [some (.t (.tup xs)), none, none] [] = .ok (.t (.bl (decide (3 ≤ xs.length) && decide (xs.length ≤ 6)))) [] := by
    by_cases h3 : 3 ≤ xs.length
    · have h3' : (3 : Int) ≤ xs.length := by omega
      have h6 : decide ((xs.length : Int) ≤ 6) = decide (xs.length ≤ 6) := decide_eq_decide.mpr (by omega)
      simp [gCh, gC, g2, gL, gR1, fLen, lenT, Py.gCons, Py.gNil, gVar, gOrd, look, ordT, noE, asB, Res.bind, h3, h3', h6]
    · have h3' : ¬ (3 : Int) ≤ xs.length := by omega
      simp [gCh, gC, g2, gL, gR1, fLen, lenT, Py.gCons, Py.gNil, gVar, gOrd, look, ordT, noE, asB, Res.bind, h3, h3']
  unfold r__law_are_marks runDef b__law_are_marks
  by_cases hl : 3 ≤ xs.length ∧ xs.length ≤ 6
  · have c0 : bOr (bNot (gTru (gL (gR2 (fIs B)) (Py.gCons (gVar 0) (Py.gCons (gC (.cl (.ty "tuple"))) Py.gNil))))) (bNot (gAsB (gCh (gOrd .LtE) (gOrd .LtE) (gC (.int 3)) (gL (gR1 fLen) (Py.gCons (gVar 0) Py.gNil)) (gC (.int 6))))) [some (.t (.tup xs)), none, none] [] = .ok false [] := by
      simp [bOr, bNotB (gTruB e0), bNotB (gAsBB e1), Res.bind, hl.1, hl.2]
    have s1 : sIf (bOr (bNot (gTru (gL (gR2 (fIs B)) (Py.gCons (gVar 0) (Py.gCons (gC (.cl (.ty "tuple"))) Py.gNil))))) (bNot (gAsB (gCh (gOrd .LtE) (gOrd .LtE) (gC (.int 3)) (gL (gR1 fLen) (Py.gCons (gVar 0) Py.gNil)) (gC (.int 6)))))) (sSeq (sRet (gC (.bl false))) sNext) sNext [some (.t (.tup xs)), none, none] [] = .next [some (.t (.tup xs)), none, none] [] := by
      rw [sIfF c0]; rfl
    have ei : Py.iEnumA (Py.gCons (gVar 0) Py.gNil) [some (.t (.tup xs)), none, none] [] = .ok (enumT 0 xs) [] := rfl
    obtain ⟨r1, r2⟩ := scan_ok (some (.t (.tup xs))) [] xs 0 none none hf
    have hM : isM (.tup xs) = (alli 0 xs && xs.all (eqm xs)) := by
      show (decide (3 ≤ xs.length) && (decide (xs.length ≤ 6) && allm xs 0 xs)) = _
      rw [allm_split]
      simp [hl.1, hl.2]
    have sf : ∀ {r : SRes}, forL (turn (aTup 2 (aCons (aName 1) (aCons (aName 2) aNil))) scanB) (enumT 0 xs) [some (.t (.tup xs)), none, none] [] = r → sFor (Py.iEnumA (Py.gCons (gVar 0) Py.gNil)) (aTup 2 (aCons (aName 1) (aCons (aName 2) aNil))) scanB [some (.t (.tup xs)), none, none] [] = r := fun e => by
      unfold sFor
      rw [ei]
      exact e
    cases ha : alli 0 xs with
    | true =>
      obtain ⟨y1, y2, q⟩ := r1 ha
      have e2 : gLc false (Py.iSeq (gVar 0)) (aName 2) cYes (eqE (cf (n + 1))) [2] [some (.t (.tup xs)), y1, y2] [] = .ok (.t (.lst ((xs.map (eqm xs)).map .bl))) [] := by
        unfold gLc
        have : Py.iSeq (gVar 0) [some (.t (.tup xs)), y1, y2] [] = .ok xs [] := rfl
        rw [this]
        show (match lcAll _ xs [] with | .ok us h2 => Py.fresh false (.lst us) h2 | _ => .stuck) = _
        have w : wipeE [some (.t (.tup xs)), y1, y2] [2] = [some (.t (.tup xs)), y1, none] := rfl
        rw [w, eqs_map (cf (n + 1)) xs y1 hf [] xs 0 ha (by omega)]
        unfold Py.fresh
        dsimp only
        rw [if_pos (by rw [List.length_map]; exact small_line (by omega)), List.map_map]
        rfl
      have e3 : gL (gR1 fAll) (Py.gCons (gLc false (Py.iSeq (gVar 0)) (aName 2) cYes (eqE (cf (n + 1))) [2]) Py.gNil) [some (.t (.tup xs)), y1, y2] [] = .ok (.t (.bl (isM (.tup xs)))) [] := by
        rw [gL1 e2, hM, ha, Bool.true_and]
        have := all_bl (xs.map (eqm xs))
        have h2 : (xs.map (eqm xs)).all id = xs.all (eqm xs) := by
          rw [List.all_map]; rfl
        show (match ((Py.listOf (.lst ((xs.map (eqm xs)).map .bl))).bind (allOf blOf)).map (fun bs => T.bl (bs.all id)) with | some r => Res.ok (RV.t r) [] | none => Res.stuck) = _
        show (match (allOf blOf ((xs.map (eqm xs)).map .bl)).map (fun bs => T.bl (bs.all id)) with | some r => Res.ok (RV.t r) [] | none => Res.stuck) = _
        rw [this]
        show Res.ok (RV.t (.bl ((xs.map (eqm xs)).all id))) [] = _
        rw [h2]
      show (match sSeq _ _ [some (.t (.tup xs)), none, none] [] with
        | .ret v h' => defEnd false ([] : Hs).length v h'
        | .next _ h' => defEnd false ([] : Hs).length (.t .non) h'
        | .err c t _ h' => .err c t (h'.take ([] : Hs).length)
        | _ => .stuck) = _
      rw [sSeqN s1, sSeqN (sf q), sSeqR (sRetE e3)]
      rfl
    | false =>
      have q := r2 ha
      have hM' : isM (.tup xs) = false := by rw [hM, ha]; rfl
      rw [hM']
      show (match sSeq _ _ [some (.t (.tup xs)), none, none] [] with
        | .ret v h' => defEnd false ([] : Hs).length v h'
        | .next _ h' => defEnd false ([] : Hs).length (.t .non) h'
        | .err c t _ h' => .err c t (h'.take ([] : Hs).length)
        | _ => .stuck) = _
      rw [sSeqN s1, sSeqR (sf q)]
      rfl
  · have hb : (decide (3 ≤ xs.length) && decide (xs.length ≤ 6)) = false := by
      rw [Bool.and_eq_false_iff, decide_eq_false_iff_not, decide_eq_false_iff_not]
      omega
    have hm : isM (.tup xs) = false := by
      show (decide (3 ≤ xs.length) && (decide (xs.length ≤ 6) && allm xs 0 xs)) = false
      rw [← Bool.and_assoc, hb]
      rfl
    rw [hm]
    rw [hb] at e1
    have c0 : bOr (bNot (gTru (gL (gR2 (fIs B)) (Py.gCons (gVar 0) (Py.gCons (gC (.cl (.ty "tuple"))) Py.gNil))))) (bNot (gAsB (gCh (gOrd .LtE) (gOrd .LtE) (gC (.int 3)) (gL (gR1 fLen) (Py.gCons (gVar 0) Py.gNil)) (gC (.int 6))))) [some (.t (.tup xs)), none, none] [] = .ok true [] := by
      simp [bOr, bNotB (gTruB e0), bNotB (gAsBB e1), Res.bind]
    have s1 : sIf (bOr (bNot (gTru (gL (gR2 (fIs B)) (Py.gCons (gVar 0) (Py.gCons (gC (.cl (.ty "tuple"))) Py.gNil))))) (bNot (gAsB (gCh (gOrd .LtE) (gOrd .LtE) (gC (.int 3)) (gL (gR1 fLen) (Py.gCons (gVar 0) Py.gNil)) (gC (.int 6)))))) (sSeq (sRet (gC (.bl false))) sNext) sNext [some (.t (.tup xs)), none, none] [] = .ret (.t (.bl false)) [] := by
      rw [sIfT c0]; rfl
    show (match sSeq _ _ [some (.t (.tup xs)), none, none] [] with
      | .ret v h' => defEnd false ([] : Hs).length v h'
      | .next _ h' => defEnd false ([] : Hs).length (.t .non) h'
      | .err c t _ h' => .err c t (h'.take ([] : Hs).length)
      | _ => .stuck) = _
    rw [sSeqR s1]
    rfl
end Q01

set_option Elab.async false
set_option linter.all false
set_option maxRecDepth 100000
set_option maxHeartbeats 4000000
namespace Q01
open PySem PySem.Spec PyProof.Rows L2 Lw LamX Py
/-- values whose marks are looked at -/
def gv : T → Bool
  | .tup xs => xs.all Sm && decide (xs.length ≤ 20)
  | .lst xs => xs.all Sm && decide (xs.length ≤ 20)
  | t => Sm t
theorem sm_flat {x : T} (h : Sm x = true) : x.flat = true := by
  unfold Sm at h
  rw [Bool.and_eq_true] at h
  exact h.1
theorem sm_all {xs : List T} (h : xs.all Sm = true) : xs.all T.flat = true := by
  rw [List.all_eq_true] at h ⊢
  exact fun x hx => sm_flat (h x hx)
theorem sm_data {x : T} (h : Sm x = true) : ∃ d, x.toD = some d ∧ d.showable = true ∧ cost d ≤ 100 ∧ d.depth ≤ 2 := by
  unfold Sm at h
  rw [Bool.and_eq_true] at h
  have h2 := h.2
  unfold smD at h2
  split at h2
  · rename_i d e
    rw [Bool.and_eq_true, Bool.and_eq_true, decide_eq_true_eq, decide_eq_true_eq] at h2
    exact ⟨d, e, h2.1, h2.2.1, h2.2.2⟩
  · cases h2
theorem sm_datas : ∀ {xs : List T}, xs.all Sm = true → ∃ ds, T.toDs xs = some ds ∧ PyData.showableAll ds = true ∧ costAll ds ≤ 102 * xs.length ∧ PyData.depthAll ds ≤ 2
  | [], _ => ⟨[], rfl, rfl, Nat.le_refl _, Nat.zero_le _⟩
  | x :: xs, h => by
    rw [List.all_cons, Bool.and_eq_true] at h
    obtain ⟨d, e1, e2, e3, e4⟩ := sm_data h.1
    obtain ⟨ds, q1, q2, q3, q4⟩ := sm_datas h.2
    refine ⟨d :: ds, ?_, ?_, ?_, ?_⟩
    · unfold T.toDs
      rw [e1, q1]
    · unfold PyData.showableAll
      rw [e2, q2]; rfl
    · unfold costAll
      rw [List.length_cons]; omega
    · unfold PyData.depthAll
      omega
theorem repr_of {v : T} {d : PyData} (e : v.toDr = some d) (h1 : d.showable = true) (h2 : cost d ≤ 100000) (h3 : d.depth ≤ 60) : fRepr v = some (.str d.shown) := by
  unfold fRepr
  rw [e]
  dsimp only
  rw [if_pos]
  rw [Bool.and_eq_true, Bool.and_eq_true, decide_eq_true_eq, decide_eq_true_eq]
  exact ⟨⟨h1, Nat.le_trans (shown_le d) (small_line h2)⟩, h3⟩
theorem repr_gv {v : T} (h : gv v = true) : ∃ s, fRepr v = some (.str s) := by
  cases v with
  | tup xs =>
    simp only [gv, Bool.and_eq_true, decide_eq_true_eq] at h
    obtain ⟨ds, q1, q2, q3, q4⟩ := sm_datas h.1
    refine ⟨_, repr_of (d := .tuple ds) ?_ ?_ ?_ ?_⟩
    · show (T.toDs xs).map _ = _
      rw [q1]; rfl
    · simpa [PyData.showable] using q2
    · simp only [cost]; omega
    · simp only [PyData.depth]; omega
  | lst xs =>
    simp only [gv, Bool.and_eq_true, decide_eq_true_eq] at h
    obtain ⟨ds, q1, q2, q3, q4⟩ := sm_datas h.1
    refine ⟨_, repr_of (d := .list ds) ?_ ?_ ?_ ?_⟩
    · show (T.toDs xs).map _ = _
      rw [q1]; rfl
    · simpa [PyData.showable] using q2
    · simp only [cost]; omega
    · simp only [PyData.depth]; omega
  | dct kts => cases sm_flat h
  | _ =>
    obtain ⟨d, e1, e2, e3, e4⟩ := sm_data h
    exact ⟨_, repr_of (d := d) e1 e2 (by omega) (by omega)⟩
theorem are_marks_gv (n : Nat) (v : T) (h : gv v = true) : r_are_marks (cf (n + 1)) [.t v] [] = .ok (.t (.bl (isM v))) [] := by
  cases v with
  | tup xs =>
    simp only [gv, Bool.and_eq_true, decide_eq_true_eq] at h
    exact are_marks_tup n xs (sm_all h.1)
  | lst xs => rfl
  | non => rfl
  | bl b => rfl
  | int i => rfl
  | str x => rfl
  | _ => cases sm_flat h
theorem law_are_marks_gv (n : Nat) (v : T) (h : gv v = true) : r__law_are_marks (cf (n + 1)) [.t v] [] = .ok (.t (.bl (isM v))) [] := by
  cases v with
  | tup xs =>
    simp only [gv, Bool.and_eq_true, decide_eq_true_eq] at h
    exact law_are_marks_tup n xs (sm_all h.1)
  | lst xs => rfl
  | non => rfl
  | bl b => rfl
  | int i => rfl
  | str x => rfl
  | _ => cases sm_flat h
abbrev sObj (v : T) : T := .obj "Standing" [("_marks", v)]
theorem init_ok (n : Nat) (v : T) (b : Bool) (hA : r_are_marks (cf (n + 1)) [.t v] [] = .ok (.t (.bl b)) []) :
    r_Standing___init__ (cf (n + 2)) [.r 0, .t v] [.ins "Standing" []] = if b = true then .ok (.t .non) [.ins "Standing" [("_marks", v)]] else .err "BadMarks" v [.ins "Standing" []] := by
  have e1 : gL (cf (n + 2) (.g "are_marks")) (Py.gCons (gVar 1) Py.gNil) [some (.r 0), some (.t v)] [.ins "Standing" []] = .ok (.t (.bl b)) [.ins "Standing" []] := by
    rw [gL1 (v := .t v) (h1 := [.ins "Standing" []]) rfl, show cf (n + 2) (.g "are_marks") = loc (r_are_marks (cf (n + 1))) from c_are_marks (n + 1)]
    exact loc_none rfl hA
  unfold r_Standing___init__ runDef b_Standing___init__
  show (match sSeq _ _ [some (.r 0), some (.t v)] [.ins "Standing" []] with
    | .ret v h' => defEnd false 1 v h'
    | .next _ h' => defEnd false 1 (.t .non) h'
    | .err c t _ h' => .err c t (h'.take 1)
    | _ => .stuck) = _
  cases b with
  | true =>
    have s1 : sIf (bNot (gTru (gL (cf (n + 2) (.g "are_marks")) (Py.gCons (gVar 1) Py.gNil)))) (sSeq (sRaise "BadMarks" (Py.gCons (gVar 1) Py.gNil)) sNext) sNext [some (.r 0), some (.t v)] [.ins "Standing" []] = .next [some (.r 0), some (.t v)] [.ins "Standing" []] := by
      rw [sIfF (bNotB (gTruB e1))]; rfl
    rw [sSeqN s1]
    have s2 : sPut B "_marks" (gVar 0) (gVar 1) [some (.r 0), some (.t v)] [.ins "Standing" []] = .next [some (.r 0), some (.t v)] [.ins "Standing" [("_marks", v)]] := by
      have : (B.cls.contains "Standing" && B.fld.contains ("Standing", "_marks") && decide (0 < 900)) = true := by decide +kernel
      show (if (B.cls.contains "Standing" && B.fld.contains ("Standing", "_marks") && decide (0 < 900)) = true then SRes.next [some (.r 0), some (.t v)] [.ins "Standing" [("_marks", v)]] else SRes.stuck) = _
      rw [if_pos this]
    rw [sSeqN s2]
    rfl
  | false =>
    have s1 : sIf (bNot (gTru (gL (cf (n + 2) (.g "are_marks")) (Py.gCons (gVar 1) Py.gNil)))) (sSeq (sRaise "BadMarks" (Py.gCons (gVar 1) Py.gNil)) sNext) sNext [some (.r 0), some (.t v)] [.ins "Standing" []] = .err "BadMarks" v [some (.r 0), some (.t v)] [.ins "Standing" []] := by
      rw [sIfT (bNotB (gTruB e1))]; rfl
    rw [sSeqE s1]
    rfl
theorem new_ok (n : Nat) (v : T) (h : Hs) (hA : r_are_marks (cf (n + 1)) [.t v] [] = .ok (.t (.bl true)) []) : gNew (cf (n + 3)) "Standing" false [.t v] h = .ok (.t (sObj v)) h := by
  have e := init_ok n v true hA
  rw [if_pos rfl] at e
  have el : cf (n + 3) (.m "Standing" "__init__") [.r h.length, .t v] (h ++ [Cell.ins "Standing" []]) = .ok (.t .non) ((h ++ [Cell.ins "Standing" []]).set h.length (Cell.ins "Standing" [("_marks", v)])) := by
    rw [show cf (n + 3) (.m "Standing" "__init__") = loc (r_Standing___init__ (cf (n + 2))) from c_Standing___init__ (n + 2)]
    exact loc_one rfl (by simp) e
  unfold gNew
  rw [el]
  simp [Res.bind, newEnd, Cell.tree]
theorem new_bad (n : Nat) (v : T) (h : Hs) (hA : r_are_marks (cf (n + 1)) [.t v] [] = .ok (.t (.bl false)) []) : ∃ h', gNew (cf (n + 3)) "Standing" false [.t v] h = .err "BadMarks" v h' := by
  have e := init_ok n v false hA
  rw [if_neg (by decide)] at e
  have el : cf (n + 3) (.m "Standing" "__init__") [.r h.length, .t v] (h ++ [Cell.ins "Standing" []]) = .err "BadMarks" v ((h ++ [Cell.ins "Standing" []]).set h.length (Cell.ins "Standing" [])) := by
    rw [show cf (n + 3) (.m "Standing" "__init__") = loc (r_Standing___init__ (cf (n + 2))) from c_Standing___init__ (n + 2)]
    unfold loc
    have : renum 0 [.r (List.length h), .t v] = [.r 0, .t v] := rfl
    simp [Py.refsOf, pick, this, e, locEnd, wb]
  unfold gNew
  rw [el]
  exact ⟨_, rfl⟩
theorem marks_at (n : Nat) (v : T) (env : Ev) (i : Nat) (h : Hs) (he : env[i]? = some (some (.t (sObj v)))) : g1 (gAttr B (cf (n + 1)) "marks") (gVar i) env h = .ok (.t v) h := by
  have e : r_Standing_marks (cf n) [.t (sObj v)] [] = .ok (.t v) [] := rfl
  have el : cf (n + 1) (.m "Standing" "marks") [.t (sObj v)] h = .ok (.t v) h := by
    rw [show cf (n + 1) (.m "Standing" "marks") = loc (r_Standing_marks (cf n)) from c_Standing_marks n]
    exact loc_none rfl e
  have ev : gVar i env h = .ok (.t (sObj v)) h := by
    unfold gVar
    rw [he]
  unfold g1
  rw [ev]
  show gAttr B (cf (n + 1)) "marks" (.t (sObj v)) h = _
  have b1 : B.cls.contains "Standing" = true := by decide +kernel
  have b2 : B.props.contains ("Standing", "marks") = true := by decide +kernel
  have b3 : ([("_marks", v)] : List (Str × T)).lookup ("marks" : Str) = none := rfl
  show (if B.cls.contains "Standing" = true then (match ([("_marks", v)] : List (Str × T)).lookup ("marks" : Str) with
      | some t => if B.fld.contains ("Standing", "marks") = true then Res.ok (RV.t t) h else Res.stuck
      | none => if B.props.contains ("Standing", "marks") = true then (match cf (n + 1) (.m "Standing" "marks") [.t (sObj v)] h with
          | .ok u h' => Res.ok u h'
          | _ => Res.stuck)
        else Res.stuck)
    else Res.stuck) = _
  rw [if_pos b1, b3]
  dsimp only
  rw [if_pos b2, el]
theorem str_eq {cf : CF} {a b : Ev → M RV} {env : Ev} {h : Hs} {s : Str} (e1 : a env h = .ok (.t (.str s)) h) (e2 : b env h = .ok (.t (.str s)) h) : g2 (bySelf (ownEq B cf) (gEq false)) a b env h = .ok (.t (.bl true)) h := by
  rw [g2e e1 e2]
  have : Py.eqT (.str s) (.str s) = some true := by
    unfold Py.eqT
    rw [if_pos (show ((T.str s).flat && (T.str s).flat) = true from rfl)]
    simp [eqF]
  show (match Py.eqT (.str s) (.str s) with | some b => Res.ok (RV.t (.bl (if false = true then !b else b))) h | none => Res.stuck) = _
  rw [this]
  rfl
theorem repr_at {a : Ev → M RV} {env : Ev} {h : Hs} {v : T} {s : Str} (e : a env h = .ok (.t v) h) (r : fRepr v = some (.str s)) : gL (gR1 fRepr) (Py.gCons a Py.gNil) env h = .ok (.t (.str s)) h := by
  rw [gL1 e]
  simp [gR1, look, r]
theorem taken_ok (n : Nat) (v : T) (hg : gv v = true) : r__law_is_taken_right (cf (n + 3)) [.t v] [] = .ok (.t (.bl true)) [] := by
  obtain ⟨s, hr⟩ := repr_gv hg
  have hA := are_marks_gv n v hg
  have hL : ∀ (env : Ev) (h : Hs), env[0]? = some (some (.t v)) → gL (cf (n + 3) (.g "_law_are_marks")) (Py.gCons (gVar 0) Py.gNil) env h = .ok (.t (.bl (isM v))) h := fun env h he => by
    have ev : gVar 0 env h = .ok (.t v) h := by
      unfold gVar
      rw [he]
    rw [gL1 ev, show cf (n + 3) (.g "_law_are_marks") = loc (r__law_are_marks (cf (n + 2))) from c__law_are_marks (n + 2)]
    exact loc_none rfl (law_are_marks_gv (n + 1) v hg)
  unfold r__law_is_taken_right runDef b__law_is_taken_right
  show (match sSeq _ _ [some (.t v), none, none] [] with
    | .ret v h' => defEnd false 0 v h'
    | .next _ h' => defEnd false 0 (.t .non) h'
    | .err c t _ h' => .err c t (h'.take 0)
    | _ => .stuck) = _
  cases hm : isM v with
  | true =>
    rw [hm] at hA
    have en := new_ok n v [] hA
    have s1 : sAsg (aTup 2 (aCons (aName 1) (aCons (aName 2) aNil))) (gTold B "WireError" (gL (gNew (cf (n + 3)) "Standing" false) (Py.gCons (gVar 0) Py.gNil))) [some (.t v), none, none] [] = .next [some (.t v), some (.t .non), some (.t (sObj v))] [] := by
      have : gTold B "WireError" (gL (gNew (cf (n + 3)) "Standing" false) (Py.gCons (gVar 0) Py.gNil)) [some (.t v), none, none] [] = .ok (.t (.tup [.non, sObj v])) [] := by
        unfold gTold
        rw [gL1 (v := .t v) (h1 := []) rfl, en]
        rfl
      unfold sAsg
      rw [this]
      rfl
    have e2 := hL [some (.t v), some (.t .non), some (.t (sObj v))] [] rfl
    rw [hm] at e2
    have e3 : vAnd (g2 (gIs false) (gVar 1) (gC (.non))) (g2 (bySelf (ownEq B (cf (n + 3))) (gEq false)) (gL (gR1 fRepr) (Py.gCons (g1 (gAttr B (cf (n + 3)) "marks") (gVar 2)) Py.gNil)) (gL (gR1 fRepr) (Py.gCons (gVar 0) Py.gNil))) [some (.t v), some (.t .non), some (.t (sObj v))] [] = .ok (.t (.bl true)) [] := by
      rw [vAndT (h1 := []) rfl]
      exact str_eq (repr_at (marks_at (n + 2) v _ 2 [] rfl) hr) (repr_at rfl hr)
    rw [sSeqN s1, sSeqR (v := .t (.bl true)) (h1 := [])]
    · rfl
    · rw [sIfT (gTruB e2), sSeqR (sRetE e3)]
  | false =>
    rw [hm] at hA
    obtain ⟨h', en⟩ := new_bad n v [] hA
    have s1 : ∃ h2, sAsg (aTup 2 (aCons (aName 1) (aCons (aName 2) aNil))) (gTold B "WireError" (gL (gNew (cf (n + 3)) "Standing" false) (Py.gCons (gVar 0) Py.gNil))) [some (.t v), none, none] [] = .next [some (.t v), some (.t (.err "BadMarks" v)), some (.t .non)] h2 := by
      have : gTold B "WireError" (gL (gNew (cf (n + 3)) "Standing" false) (Py.gCons (gVar 0) Py.gNil)) [some (.t v), none, none] [] = .ok (.t (.tup [.err "BadMarks" v, .non])) h' := by
        unfold gTold
        rw [gL1 (v := .t v) (h1 := []) rfl, en]
        unfold told
        dsimp only
        rw [if_pos (by decide +kernel)]
      refine ⟨h', ?_⟩
      unfold sAsg
      rw [this]
      rfl
    obtain ⟨h2, s1⟩ := s1
    have e2 := hL [some (.t v), some (.t (.err "BadMarks" v)), some (.t .non)] h2 rfl
    rw [hm] at e2
    have b1 : (B.errs.contains "BadMarks" && decide (("value" : Str) = "value")) = true := by decide +kernel
    have ea : g1 (gAttr B (cf (n + 3)) "value") (gVar 1) [some (.t v), some (.t (.err "BadMarks" v)), some (.t .non)] h2 = .ok (.t v) h2 := by
      show (if (B.errs.contains "BadMarks" && decide (("value" : Str) = "value")) = true then Res.ok (RV.t v) h2 else Res.stuck) = _
      rw [if_pos b1]
    have ei : gL (gR2 (fIs B)) (Py.gCons (gVar 1) (Py.gCons (gC (.cl (.own "BadMarks"))) Py.gNil)) [some (.t v), some (.t (.err "BadMarks" v)), some (.t .non)] h2 = .ok (.t (.bl true)) h2 := by
      rw [gL2 (v := .t (.err "BadMarks" v)) (h1 := h2) (w := .t (.cl (.own "BadMarks"))) (h2 := h2) rfl rfl]
      rfl
    have e3 : vAnd (gL (gR2 (fIs B)) (Py.gCons (gVar 1) (Py.gCons (gC (.cl (.own "BadMarks"))) Py.gNil))) (g2 (bySelf (ownEq B (cf (n + 3))) (gEq false)) (gL (gR1 fRepr) (Py.gCons (g1 (gAttr B (cf (n + 3)) "value") (gVar 1)) Py.gNil)) (gL (gR1 fRepr) (Py.gCons (gVar 0) Py.gNil))) [some (.t v), some (.t (.err "BadMarks" v)), some (.t .non)] h2 = .ok (.t (.bl true)) h2 := by
      rw [vAndT ei]
      exact str_eq (repr_at ea hr) (repr_at rfl hr)
    rw [sSeqN s1, sSeqN (env1 := [some (.t v), some (.t (.err "BadMarks" v)), some (.t .non)]) (h1 := h2) (by rw [sIfF (gTruB e2)]; rfl), sSeqR (sRetE e3)]
    rfl
end Q01

set_option Elab.async false
set_option linter.all false
set_option maxRecDepth 100000
set_option maxHeartbeats 4000000
namespace Q01
open PySem PySem.Spec PyProof.Rows L2 Lw LamX Py
theorem take0 (n k : Nat) (c : Cell) (u : Int) (P : PotC c k) (hk : k < 2 ^ 39) (hu : 0 < u) (hu2 : u < 1073741824) :
    ∃ (d : Nat) (c' : Cell), d < u.toNat ∧ cf (n + 1) (.g "_law_take") [.r 0, .t (.int u)] [c] = .ok (.t (.int d)) [c'] ∧ PotC c' (k + 1) :=
  take_at (p := 0) (h := [c]) u (tk_ n) rfl P hk hu hu2
theorem of0 (n k : Nat) (c : Cell) (xs : List T) (P : PotC c k) (hk : k < 2 ^ 39) (h1 : xs ≠ []) (h2 : xs.length < 1073741824) :
    ∃ (x : T) (c' : Cell), x ∈ xs ∧ cf (n + 2) (.g "_law_of") [.r 0, .t (.lst xs)] [c] = .ok (.t x) [c'] ∧ PotC c' (k + 1) := by
  obtain ⟨d, hd, c', e, P'⟩ := of_at (p := 0) (h := [c]) xs (of_ (n + 1)) (tk_ n) rfl P hk h1 h2
  exact ⟨_, c', List.getElem_mem hd, e, P'⟩
def oddL : List T := [.non, .bl true, .bl false, .int 0, .int 1, .int (-1), .int 2, .str "", .str "x", .str "lit", .str "keeps", .tup [], .lst [], .dct [], .tup [.tup []], .tup [.int 0], .lst [.int 0], .tup [.str "short"], .tup [.int 0, .tup [.int 0, .int 1, .int 2]], .str "foot", .tup [.str "foot", .tup [.int 0]]]
theorem l1 {k : Nat} (h : k ≤ 100 := by decide) : k ≤ sizeLine := small_line (by omega)
theorem odd_ok (n k : Nat) (c : Cell) (P : PotC c k) (hk : k < 2 ^ 39) :
    ∃ (x : T) (c' : Cell), x ∈ oddL ∧ r__law_odd (cf (n + 2)) [.r 0] [c] = .ok (.t x) [c'] ∧ PotC c' (k + 1) := by
  obtain ⟨x, c', hx, e, P'⟩ := of0 n k c oddL P hk (by decide) (by decide)
  refine ⟨x, c', hx, ?_, P'⟩
  have a1 : sAsg (aName 1) (Py.gLst false (Py.gCons (gC (.non)) (Py.gCons (gC (.bl true)) (Py.gCons (gC (.bl false)) (Py.gCons (gC (.int 0)) (Py.gCons (gC (.int 1)) (Py.gCons (g1 gNeg (gC (.int 1))) (Py.gCons (gC (.int 2)) (Py.gCons (gC (.str "")) (Py.gCons (gC (.str "x")) (Py.gCons (gC (.str "lit")) (Py.gCons (gC (.str "keeps")) (Py.gCons (Py.gTup Py.gNil) (Py.gCons (Py.gLst false Py.gNil) (Py.gCons (gDict0 false) (Py.gCons (Py.gTup (Py.gCons (Py.gTup Py.gNil) Py.gNil)) (Py.gCons (Py.gTup (Py.gCons (gC (.int 0)) Py.gNil)) (Py.gCons (Py.gLst false (Py.gCons (gC (.int 0)) Py.gNil)) (Py.gCons (Py.gTup (Py.gCons (gC (.str "short")) Py.gNil)) Py.gNil))))))))))))))))))) [some (.r 0), none] [c] = .next [some (.r 0), some (.t (.lst (oddL.take 18)))] [c] := by
    simp [sAsg, aName, Py.gLst, Py.gCons, Py.gNil, gC, g1, gNeg, Py.gTup, gDict0, toTs, toT, Py.fresh, Res.bind, Res.sb, look, l1, oddL]
  have a2 : g2 (gBin false .Add) (gVar 1) (Py.gLst false (Py.gCons (Py.gTup (Py.gCons (gC (.int 0)) (Py.gCons (Py.gTup (Py.gCons (gC (.int 0)) (Py.gCons (gC (.int 1)) (Py.gCons (gC (.int 2)) Py.gNil)))) Py.gNil))) (Py.gCons (gC (.str "foot")) (Py.gCons (Py.gTup (Py.gCons (gC (.str "foot")) (Py.gCons (Py.gTup (Py.gCons (gC (.int 0)) Py.gNil)) Py.gNil))) Py.gNil)))) [some (.r 0), some (.t (.lst (oddL.take 18)))] [c] = .ok (.t (.lst oddL)) [c] := by
    simp [g2, gBin, gVar, Py.gLst, Py.gCons, Py.gNil, gC, Py.gTup, toTs, toT, Py.fresh, Res.bind, look, binOpT, l1, oddL]
  unfold r__law_odd runDef b__law_odd
  show (match sSeq _ _ [some (.r 0), none] [c] with
    | .ret v h' => defEnd false 1 v h'
    | .next _ h' => defEnd false 1 (.t .non) h'
    | .err c t _ h' => .err c t (h'.take 1)
    | _ => .stuck) = _
  rw [sSeqN a1, sSeqR (sRetE (by rw [gL2 (v := .r 0) (h1 := [c]) rfl a2]; exact e))]
  rfl
theorem odd_at (n k : Nat) (c : Cell) (h : Hs) (p : Nat) (hp : h[p]? = some c) (P : PotC c k) (hk : k < 2 ^ 39) :
    ∃ (x : T) (c' : Cell), x ∈ oddL ∧ cf (n + 3) (.g "_law_odd") [.r p] h = .ok (.t x) (h.set p c') ∧ PotC c' (k + 1) := by
  obtain ⟨x, c', hx, e, P'⟩ := odd_ok n k c P hk
  refine ⟨x, c', hx, ?_, P'⟩
  rw [show cf (n + 3) (.g "_law_odd") = loc (r__law_odd (cf (n + 2))) from c__law_odd (n + 2)]
  exact loc_one rfl hp e
/-- what a mark may be bent to -/
def bentI (m : Int) : List T := [.int (m + 1), .int (m - 1), .bl (m == 1), .str (toString m), .int 0, .non]
theorem bent_int (n k : Nat) (c : Cell) (m : Int) (P : PotC c k) (hk : k < 2 ^ 39) (hm : 0 ≤ m ∧ m ≤ 6) :
    ∃ (x : T) (c' : Cell), x ∈ bentI m ∧ r__law_bent_value (cf (n + 2)) [.r 0, .t (.int m)] [c] = .ok (.t x) [c'] ∧ PotC c' (k + 1) := by
  obtain ⟨x, c', hx, e, P'⟩ := of0 n k c (bentI m) P hk (by simp [bentI]) (by simp [bentI])
  refine ⟨x, c', hx, ?_, P'⟩
  have hlog : m.natAbs.log2 < 1920 := by
    have : m = 0 ∨ m = 1 ∨ m = 2 ∨ m = 3 ∨ m = 4 ∨ m = 5 ∨ m = 6 := by omega
    rcases this with rfl | rfl | rfl | rfl | rfl | rfl | rfl <;> decide
  have eE : g2 (bySelf (ownEq B (cf (n + 2))) (gEq false)) (gVar 1) (gC (.int 1)) [some (.r 0), some (.t (.int m)), none] [c] = .ok (.t (.bl (m == 1))) [c] :=
    flat_eq (B := B) (cf := cf (n + 2)) (y := .int m) (m := 1) rfl rfl rfl
  have eS : gL (gR1 fStr) (Py.gCons (gVar 1) Py.gNil) [some (.r 0), some (.t (.int m)), none] [c] = .ok (.t (.str (toString m))) [c] := by
    rw [gL1 (v := .t (.int m)) (h1 := [c]) rfl]
    simp [gR1, look, fStr, hlog]
  have eL : Py.gLst false (Py.gCons (g2 (gBin false .Add) (gVar 1) (gC (.int 1))) (Py.gCons (g2 (gBin false .Sub) (gVar 1) (gC (.int 1))) (Py.gCons (g2 (bySelf (ownEq B (cf (n + 2))) (gEq false)) (gVar 1) (gC (.int 1))) (Py.gCons (gL (gR1 fStr) (Py.gCons (gVar 1) Py.gNil)) (Py.gCons (gC (.int 0)) (Py.gCons (gC (.non)) Py.gNil)))))) [some (.r 0), some (.t (.int m)), none] [c] = .ok (.t (.lst (bentI m))) [c] := by
    have e1 : g2 (gBin false .Add) (gVar 1) (gC (.int 1)) [some (.r 0), some (.t (.int m)), none] [c] = .ok (.t (.int (m + 1))) [c] := rfl
    have e2 : g2 (gBin false .Sub) (gVar 1) (gC (.int 1)) [some (.r 0), some (.t (.int m)), none] [c] = .ok (.t (.int (m - 1))) [c] := rfl
    simp [Py.gLst, Py.gCons, Py.gNil, e1, e2, eE, eS, gC, toTs, toT, Py.fresh, Res.bind, l1, bentI]
  have q1 : bAnd (gTru (gL (gR2 (fIs B)) (Py.gCons (gVar 1) (Py.gCons (gC (.cl (.ty "tuple"))) Py.gNil)))) (bAnd (gAsB (g2 (bySelf (ownNe B (cf (n + 2))) (gEq true)) (gVar 1) (Py.gTup Py.gNil))) (gAsB (g2 (gOrd .Gt) (gL (cf (n + 2) (.g "_law_take")) (Py.gCons (gVar 0) (Py.gCons (gC (.int 6)) Py.gNil))) (gC (.int 0))))) [some (.r 0), some (.t (.int m)), none] [c] = .ok false [c] := rfl
  have q2 : gTru (gL (gR2 (fIs B)) (Py.gCons (gVar 1) (Py.gCons (gC (.cl (.ty "tuple"))) Py.gNil))) [some (.r 0), some (.t (.int m)), none] [c] = .ok false [c] := rfl
  have q3 : bOr (gTru (gL (gR2 (fIs B)) (Py.gCons (gVar 1) (Py.gCons (gC (.cl (.ty "bool"))) Py.gNil)))) (gAsB (g2 (gIs false) (gVar 1) (gC (.non)))) [some (.r 0), some (.t (.int m)), none] [c] = .ok false [c] := rfl
  have q4 : gTru (gL (gR2 (fIs B)) (Py.gCons (gVar 1) (Py.gCons (gC (.cl (.ty "int"))) Py.gNil))) [some (.r 0), some (.t (.int m)), none] [c] = .ok true [c] := rfl
  unfold r__law_bent_value runDef b__law_bent_value
  show (match sSeq _ _ [some (.r 0), some (.t (.int m)), none] [c] with
    | .ret v h' => defEnd false 1 v h'
    | .next _ h' => defEnd false 1 (.t .non) h'
    | .err c t _ h' => .err c t (h'.take 1)
    | _ => .stuck) = _
  rw [sSeqN (env1 := [some (.r 0), some (.t (.int m)), none]) (h1 := [c]) (by rw [sIfF q1]; rfl), sSeqN (env1 := [some (.r 0), some (.t (.int m)), none]) (h1 := [c]) (by rw [sIfF q2]; rfl), sSeqN (env1 := [some (.r 0), some (.t (.int m)), none]) (h1 := [c]) (by rw [sIfF q3]; rfl),
    sSeqR (v := .t x) (h1 := [c']) (by rw [sIfT q4, sSeqR (sRetE (by rw [gL2 (v := .r 0) (h1 := [c]) rfl eL]; exact e))])]
  rfl
theorem sm_bent (m : Int) (hm : 0 ≤ m ∧ m ≤ 6) : (bentI m).all Sm = true := by
  have : m = 0 ∨ m = 1 ∨ m = 2 ∨ m = 3 ∨ m = 4 ∨ m = 5 ∨ m = 6 := by omega
  rcases this with rfl | rfl | rfl | rfl | rfl | rfl | rfl <;> decide +kernel
abbrev nT (m : Nat) : T := .int (m : Nat)
abbrev mT (ms : List Nat) : T := .tup (ms.map nT)
theorem sm_nT (m : Nat) (h : m ≤ 7) : Sm (nT m) = true := by
  have : m = 0 ∨ m = 1 ∨ m = 2 ∨ m = 3 ∨ m = 4 ∨ m = 5 ∨ m = 6 ∨ m = 7 := by omega
  rcases this with rfl | rfl | rfl | rfl | rfl | rfl | rfl | rfl <;> decide +kernel
theorem sm_mT (ms : List Nat) (h : ∀ m ∈ ms, m ≤ 7) : (ms.map nT).all Sm = true := by
  rw [List.all_map, List.all_eq_true]
  exact fun m hm => sm_nT m (h m hm)
end Q01

set_option Elab.async false
set_option linter.all false
set_option maxRecDepth 100000
set_option maxHeartbeats 4000000
namespace Q01
open PySem PySem.Spec PyProof.Rows L2 Lw LamX Py
theorem toDs_mT : ∀ ms : List Nat, T.toDs (ms.map nT) = some (ms.map fun m => PyData.int ((m : Nat) : Int))
  | [] => rfl
  | m :: ms => by
    rw [List.map_cons]
    unfold T.toDs
    rw [toDs_mT ms]
    rfl
theorem shaped_mT (ms : List Nat) : SeqAt.shaped (.tuple (ms.map fun m => PyData.int ((m : Nat) : Int))) = true := by
  have h1 : ∀ ms : List Nat, PyData.canLayAll0 (ms.map fun m => PyData.int ((m : Nat) : Int)) = true := fun ms => by
    induction ms with
    | nil => rfl
    | cons m ms ih => rw [List.map_cons]; unfold PyData.canLayAll0; rw [ih]; rfl
  have h2 : ∀ ms : List Nat, PyData.depthAll (ms.map fun m => PyData.int ((m : Nat) : Int)) = 0 := fun ms => by
    induction ms with
    | nil => rfl
    | cons m ms ih => rw [List.map_cons]; unfold PyData.depthAll; rw [ih]; rfl
  unfold SeqAt.shaped
  rw [Bool.and_eq_true, decide_eq_true_eq]
  refine ⟨by simpa [PyData.canLay0] using h1 ms, ?_⟩
  simp only [PyData.depth, h2]
  decide
theorem eqT_mT (a b : List Nat) : Py.eqT (mT a) (mT b) = some (PyData.eqv (.tuple (a.map fun m => PyData.int ((m : Nat) : Int))) (.tuple (b.map fun m => PyData.int ((m : Nat) : Int)))) := by
  unfold Py.eqT
  have f : ¬ ((mT a).flat && (mT b).flat) = true := by
    exact fun z => by cases (show (false && (mT b).flat) = true from z)
  rw [if_neg f]
  have d : ∀ ms : List Nat, (mT ms).toD = some (.tuple (ms.map fun m => PyData.int ((m : Nat) : Int))) := fun ms => by
    show (T.toDs (ms.map nT)).map _ = _
    rw [toDs_mT]
    rfl
  rw [d, d]
  dsimp only
  rw [if_pos (by rw [shaped_mT, shaped_mT]; rfl)]
theorem sm_cut {xs : List T} {lo hi : Option Int} (h : xs.all Sm = true) : (cutT xs lo hi).all Sm = true ∧ (cutT xs lo hi).length ≤ xs.length := by
  unfold cutT
  rw [List.all_eq_true] at h ⊢
  exact ⟨fun x hx => h x (List.mem_of_mem_drop (List.mem_of_mem_take hx)), by rw [List.length_take, List.length_drop]; omega⟩
theorem slc_at {lo hi : Option Int} {i : Nat} {env : Ev} {h : Hs} {xs : List T} {gl gh : Ev → M (Option Int)} (ev : env[i]? = some (some (.t (.tup xs)))) (el : gl env h = .ok lo h) (eh : gh env h = .ok hi h) (hl : xs.length ≤ 1000) :
    g3 (gSlc false) (gVar i) gl gh env h = .ok (.t (.tup (cutT xs lo hi))) h := by
  have e : gVar i env h = .ok (.t (.tup xs)) h := by
    unfold gVar; rw [ev]
  have l : (cutT xs lo hi).length ≤ sizeLine := by
    have : (cutT xs lo hi).length ≤ xs.length := by
      unfold cutT
      rw [List.length_take, List.length_drop]; omega
    exact small_line (by omega)
  unfold g3
  rw [e]
  simp only [Res.bind]
  rw [el]
  simp only [Res.bind]
  rw [eh]
  simp only [gSlc, look, slcT, Py.fresh]
  rw [if_pos l]
theorem add_tup {a b : Ev → M RV} {env : Ev} {h h1 h2 : Hs} {xs ys : List T} (e1 : a env h = .ok (.t (.tup xs)) h1) (e2 : b env h1 = .ok (.t (.tup ys)) h2) (hl : xs.length + ys.length ≤ 1000) :
    g2 (gBin false .Add) a b env h = .ok (.t (.tup (xs ++ ys))) h2 := by
  rw [g2e e1 e2]
  have l : xs.length + ys.length ≤ sizeLine := small_line (by omega)
  simp [gBin, look, binOpT, Py.fresh, l]
theorem tup1 {a : Ev → M RV} {env : Ev} {h h1 : Hs} {t : T} (e : a env h = .ok (.t t) h1) : Py.gTup (Py.gCons a Py.gNil) env h = .ok (.t (.tup [t])) h1 := by
  simp [Py.gTup, Py.gCons, Py.gNil, e, Res.bind, toTs, toT, Py.fresh, l1]
theorem mem_le {ms : List Nat} (hm : ∀ m ∈ ms, m ≤ 6) : ∀ m ∈ ms, m ≤ 7 := fun m h => Nat.le_succ_of_le (hm m h)
theorem bent_tup (n k : Nat) (c : Cell) (ms : List Nat) (P : PotC c k) (hk : k + 3 < 2 ^ 39) (h1 : ms ≠ []) (h2 : ms.length ≤ 7) (hm : ∀ m ∈ ms, m ≤ 6) :
    ∃ (v : T) (c' : Cell) (j : Nat), gv v = true ∧ r__law_bent_value (cf (n + 3)) [.r 0, .t (mT ms)] [c] = .ok (.t v) [c'] ∧ PotC c' (k + j) ∧ j ≤ 3 := by
  have hS := sm_mT ms (mem_le hm)
  obtain ⟨d, c1, hd, e1, P1⟩ := take0 (n + 2) k c 6 P (by omega) (by decide) (by decide)
  have i1 : gL (gR2 (fIs B)) (Py.gCons (gVar 1) (Py.gCons (gC (.cl (.ty "tuple"))) Py.gNil)) [some (.r 0), some (.t (mT ms)), none] [c] = .ok (.t (.bl true)) [c] := rfl
  have i2 : g2 (bySelf (ownNe B (cf (n + 3))) (gEq true)) (gVar 1) (Py.gTup Py.gNil) [some (.r 0), some (.t (mT ms)), none] [c] = .ok (.t (.bl true)) [c] := by
    have et : Py.gTup Py.gNil [some (.r 0), some (.t (mT ms)), none] [c] = .ok (.t (.tup [])) [c] := by
      simp [Py.gTup, Py.gNil, Res.bind, toTs, Py.fresh]
    rw [g2e (v := .t (mT ms)) (h1 := [c]) rfl et]
    have q := eqT_mT ms []
    have f : PyData.eqv (.tuple (ms.map fun m => PyData.int ((m : Nat) : Int))) (.tuple (([] : List Nat).map fun m => PyData.int ((m : Nat) : Int))) = false := by
      cases ms with
      | nil => exact absurd rfl h1
      | cons m ms => rfl
    rw [f] at q
    show (match Py.eqT (mT ms) (mT []) with | some b => Res.ok (RV.t (.bl (if true = true then !b else b))) [c] | none => Res.stuck) = _
    rw [q]
    rfl
  have i3 : g2 (gOrd .Gt) (gL (cf (n + 3) (.g "_law_take")) (Py.gCons (gVar 0) (Py.gCons (gC (.int 6)) Py.gNil))) (gC (.int 0)) [some (.r 0), some (.t (mT ms)), none] [c] = .ok (.t (.bl (decide (0 < d)))) [c1] := by
    rw [g2e (v := .t (.int d)) (h1 := [c1]) (w := .t (.int 0)) (h2 := [c1]) (by rw [gL2 (v := .r 0) (h1 := [c]) (w := .t (.int 6)) (h2 := [c]) rfl rfl]; exact e1) rfl]
    have : decide ((0 : Int) < (d : Int)) = decide (0 < d) := decide_eq_decide.mpr (by omega)
    simp [gOrd, look, ordT, this]
  have cnd : bAnd (gTru (gL (gR2 (fIs B)) (Py.gCons (gVar 1) (Py.gCons (gC (.cl (.ty "tuple"))) Py.gNil)))) (bAnd (gAsB (g2 (bySelf (ownNe B (cf (n + 3))) (gEq true)) (gVar 1) (Py.gTup Py.gNil))) (gAsB (g2 (gOrd .Gt) (gL (cf (n + 3) (.g "_law_take")) (Py.gCons (gVar 0) (Py.gCons (gC (.int 6)) Py.gNil))) (gC (.int 0))))) [some (.r 0), some (.t (mT ms)), none] [c] = .ok (decide (0 < d)) [c1] := by
    unfold bAnd
    rw [gTruB i1]
    simp only [Res.bind, if_true]
    rw [gAsBB i2]
    simp only [Res.bind, if_true]
    rw [gAsBB i3]
  unfold r__law_bent_value runDef b__law_bent_value
  by_cases h0 : 0 < d
  · rw [decide_eq_true h0] at cnd
    have hl0 : 0 < ms.length := List.length_pos_iff.mpr h1
    obtain ⟨a, c2, ha, e2, P2⟩ := take0 (n + 2) (k + 1) c1 ms.length P1 (by omega) (by omega) (by omega)
    have ha2 : a < ms.length := by simpa using ha
    have hb : 0 ≤ ((ms[a] : Nat) : Int) ∧ ((ms[a] : Nat) : Int) ≤ 6 := by
      have := hm _ (List.getElem_mem ha2)
      omega
    obtain ⟨x, c3, hx, e3, P3⟩ := bent_int n (k + 1 + 1) c2 (ms[a] : Nat) P2 (by omega) hb
    have hxs : Sm x = true := List.all_eq_true.mp (sm_bent _ hb) x hx
    have a1 : sAsg (aName 2) (gL (cf (n + 3) (.g "_law_take")) (Py.gCons (gVar 0) (Py.gCons (gL (gR1 fLen) (Py.gCons (gVar 1) Py.gNil)) Py.gNil))) [some (.r 0), some (.t (mT ms)), none] [c1] = .next [some (.r 0), some (.t (mT ms)), some (.t (.int a))] [c2] := by
      have el : gL (gR1 fLen) (Py.gCons (gVar 1) Py.gNil) [some (.r 0), some (.t (mT ms)), none] [c1] = .ok (.t (.int ms.length)) [c1] := by
        rw [gL1 (v := .t (mT ms)) (h1 := [c1]) rfl]
        simp [gR1, look, fLen, lenT, mT]
      exact sAsgN (by rw [gL2 (v := .r 0) (h1 := [c1]) rfl el]; exact e2)
    have r1 := slc_at (lo := none) (hi := some (a : Int)) (i := 1) (env := [some (.r 0), some (.t (mT ms)), some (.t (.int a))]) (h := [c2]) (xs := ms.map nT) (gl := gPart none) (gh := gPart (some (gVar 2))) rfl rfl rfl (by rw [List.length_map]; omega)
    have r2 : Py.gTup (Py.gCons (gL (cf (n + 3) (.g "_law_bent_value")) (Py.gCons (gVar 0) (Py.gCons (g2 gIdx (gVar 1) (gVar 2)) Py.gNil))) Py.gNil) [some (.r 0), some (.t (mT ms)), some (.t (.int a))] [c2] = .ok (.t (.tup [x])) [c3] := by
      have eg : g2 gIdx (gVar 1) (gVar 2) [some (.r 0), some (.t (mT ms)), some (.t (.int a))] [c2] = .ok (.t (nT ms[a])) [c2] := by
        simp [g2, gIdx, gVar, look, idxT, atI, ixN, Res.bind, ha2, mT]
      refine tup1 ?_
      rw [gL2 (v := .r 0) (h1 := [c2]) rfl eg, show cf (n + 3) (.g "_law_bent_value") = loc (r__law_bent_value (cf (n + 2))) from c__law_bent_value (n + 2)]
      exact loc_one (h := [c2]) (p := 0) (h' := []) rfl rfl e3
    have r3 := slc_at (lo := some ((a : Int) + 1)) (hi := none) (i := 1) (env := [some (.r 0), some (.t (mT ms)), some (.t (.int a))]) (h := [c3]) (xs := ms.map nT) (gl := gPart (some (g2 (gBin false .Add) (gVar 2) (gC (.int 1))))) (gh := gPart none) rfl rfl rfl (by rw [List.length_map]; omega)
    obtain ⟨s1, l1'⟩ := sm_cut (lo := none) (hi := some (a : Int)) hS
    obtain ⟨s3, l3'⟩ := sm_cut (lo := some ((a : Int) + 1)) (hi := none) hS
    rw [List.length_map] at l1' l3'
    have r := add_tup (add_tup r1 r2 (by rw [List.length_singleton]; omega)) r3 (by rw [List.length_append, List.length_singleton]; omega)
    refine ⟨.tup (cutT (ms.map nT) none (some (a : Int)) ++ [x] ++ cutT (ms.map nT) (some ((a : Int) + 1)) none), c3, 3, ?_, ?_, P3, Nat.le_refl _⟩
    rotate_left
    · show (match sSeq _ _ [some (.r 0), some (.t (mT ms)), none] [c] with
        | .ret v h' => defEnd false 1 v h'
        | .next _ h' => defEnd false 1 (.t .non) h'
        | .err c t _ h' => .err c t (h'.take 1)
        | _ => .stuck) = _
      rw [sSeqR (h1 := [c3]) (by rw [sIfT cnd, sSeqN a1, sSeqR (sRetE r)])]
      rfl
    · simp only [gv, Bool.and_eq_true, decide_eq_true_eq, List.all_append, List.length_append, List.length_singleton]
      refine ⟨⟨⟨s1, ?_⟩, s3⟩, by omega⟩
      simp [hxs]
  · rw [decide_eq_false h0] at cnd
    let L : List T := [.lst (ms.map nT), .tup (cutT (ms.map nT) (some 1) none), .tup (cutT (ms.map nT) none (some (-1))), .tup (ms.map nT ++ cutT (ms.map nT) (some (-1)) none), .tup (ms.map nT).reverse, .tup [], .non]
    have hL : ∀ v ∈ L, gv v = true := by
      have g1 : ∀ {xs : List T}, xs.all Sm = true → xs.length ≤ 20 → gv (.tup xs) = true := fun a b => by
        simp only [gv, Bool.and_eq_true, decide_eq_true_eq]; exact ⟨a, b⟩
      have q1 := sm_cut (lo := some 1) (hi := none) hS
      have q2 := sm_cut (lo := none) (hi := some (-1)) hS
      have q3 := sm_cut (lo := some (-1)) (hi := none) hS
      have hlen : (ms.map nT).length ≤ 7 := by rw [List.length_map]; exact h2
      intro v hv
      simp only [L, List.mem_cons, List.mem_nil_iff, or_false] at hv
      rcases hv with rfl | rfl | rfl | rfl | rfl | rfl | rfl
      · simp only [gv, Bool.and_eq_true, decide_eq_true_eq]; exact ⟨hS, by omega⟩
      · exact g1 q1.1 (by omega)
      · exact g1 q2.1 (by omega)
      · exact g1 (by rw [List.all_append, Bool.and_eq_true]; exact ⟨hS, q3.1⟩) (by rw [List.length_append]; omega)
      · exact g1 (by rw [List.all_reverse]; exact hS) (by rw [List.length_reverse]; omega)
      · rfl
      · rfl
    obtain ⟨v, c2, hv, e2, P2⟩ := of0 (n + 1) (k + 1) c1 L P1 (by omega) (by simp [L]) (by simp [L])
    have b1 := slc_at (lo := some 1) (hi := none) (i := 1) (env := [some (.r 0), some (.t (mT ms)), none]) (h := [c1]) (xs := ms.map nT) (gl := gPart (some (gC (.int 1)))) (gh := gPart none) rfl rfl rfl (by rw [List.length_map]; omega)
    have b2 := slc_at (lo := none) (hi := some (-1)) (i := 1) (env := [some (.r 0), some (.t (mT ms)), none]) (h := [c1]) (xs := ms.map nT) (gl := gPart none) (gh := gPart (some (g1 gNeg (gC (.int 1))))) rfl rfl rfl (by rw [List.length_map]; omega)
    have b3 := slc_at (lo := some (-1)) (hi := none) (i := 1) (env := [some (.r 0), some (.t (mT ms)), none]) (h := [c1]) (xs := ms.map nT) (gl := gPart (some (g1 gNeg (gC (.int 1))))) (gh := gPart none) rfl rfl rfl (by rw [List.length_map]; omega)
    have b4 := add_tup (a := gVar 1) (env := [some (.r 0), some (.t (mT ms)), none]) (h := [c1]) (xs := ms.map nT) rfl b3 (by
      have := (sm_cut (lo := some (-1)) (hi := none) hS).2
      rw [List.length_map] at this ⊢
      omega)
    have b5 : gL (gList false) (Py.gCons (gVar 1) Py.gNil) [some (.r 0), some (.t (mT ms)), none] [c1] = .ok (.t (.lst (ms.map nT))) [c1] := by
      rw [gL1 (v := .t (mT ms)) (h1 := [c1]) rfl]
      have l : ms.length ≤ sizeLine := small_line (by omega)
      simp [gList, look, seqOf, Py.fresh, mT, l]
    have b6 : g1 (gRev false) (gVar 1) [some (.r 0), some (.t (mT ms)), none] [c1] = .ok (.t (.tup (ms.map nT).reverse)) [c1] := by
      have l : ms.length ≤ sizeLine := small_line (by omega)
      have e : gVar 1 [some (.r 0), some (.t (mT ms)), none] [c1] = .ok (.t (mT ms)) [c1] := rfl
      unfold g1
      rw [e]
      simp [Res.bind, gRev, look, Py.fresh, mT, l]
    have bL : Py.gLst false (Py.gCons (gL (gList false) (Py.gCons (gVar 1) Py.gNil)) (Py.gCons (g3 (gSlc false) (gVar 1) (gPart (some (gC (.int 1)))) (gPart none)) (Py.gCons (g3 (gSlc false) (gVar 1) (gPart none) (gPart (some (g1 gNeg (gC (.int 1)))))) (Py.gCons (g2 (gBin false .Add) (gVar 1) (g3 (gSlc false) (gVar 1) (gPart (some (g1 gNeg (gC (.int 1))))) (gPart none))) (Py.gCons (g1 (gRev false) (gVar 1)) (Py.gCons (Py.gTup Py.gNil) (Py.gCons (gC (.non)) Py.gNil))))))) [some (.r 0), some (.t (mT ms)), none] [c1] = .ok (.t (.lst L)) [c1] := by
      have et : Py.gTup Py.gNil [some (.r 0), some (.t (mT ms)), none] [c1] = .ok (.t (.tup [])) [c1] := by
        simp [Py.gTup, Py.gNil, Res.bind, toTs, Py.fresh]
      generalize g3 (gSlc false) (gVar 1) (gPart (some (gC (.int 1)))) (gPart none) = G1 at *
      generalize g3 (gSlc false) (gVar 1) (gPart none) (gPart (some (g1 gNeg (gC (.int 1))))) = G2 at *
      generalize g2 (gBin false .Add) (gVar 1) (g3 (gSlc false) (gVar 1) (gPart (some (g1 gNeg (gC (.int 1))))) (gPart none)) = G3 at *
      generalize gL (gList false) (Py.gCons (gVar 1) Py.gNil) = G4 at *
      generalize g1 (gRev false) (gVar 1) = G5 at *
      generalize Py.gTup Py.gNil = G6 at *
      simp [Py.gLst, Py.gCons, Py.gNil, b1, b2, b4, b5, b6, et, gC, toTs, toT, Py.fresh, Res.bind, l1, L]
    have i1' : gL (gR2 (fIs B)) (Py.gCons (gVar 1) (Py.gCons (gC (.cl (.ty "tuple"))) Py.gNil)) [some (.r 0), some (.t (mT ms)), none] [c1] = .ok (.t (.bl true)) [c1] := rfl
    refine ⟨v, c2, 2, hL v hv, ?_, P2, by decide⟩
    show (match sSeq _ _ [some (.r 0), some (.t (mT ms)), none] [c] with
      | .ret v h' => defEnd false 1 v h'
      | .next _ h' => defEnd false 1 (.t .non) h'
      | .err c t _ h' => .err c t (h'.take 1)
      | _ => .stuck) = _
    rw [sSeqN (env1 := [some (.r 0), some (.t (mT ms)), none]) (h1 := [c1]) (by rw [sIfF cnd]; rfl), sSeqR (v := .t v) (h1 := [c2]) (by rw [sIfT (gTruB i1'), sSeqR (sRetE (by rw [gL2 (v := .r 0) (h1 := [c1]) rfl bL]; exact e2))])]
    rfl
end Q01

set_option Elab.async false
set_option linter.all false
set_option maxRecDepth 100000
set_option maxHeartbeats 4000000
namespace Q01
open PySem PySem.Spec PyProof.Rows L2 Lw LamX Py
/-- marks: each thing's mark is the least number of one that hangs together with it -/
def MK (ms : List Nat) : Prop := ∀ i m : Nat, ms[i]? = some m → m ≤ i ∧ ms[m]? = some m
theorem allInts (ms : List Nat) : allOf intOf (ms.map nT) = some (ms.map fun m => ((m : Nat) : Int)) := by
  induction ms with
  | nil => rfl
  | cons m ms ih =>
    rw [List.map_cons, List.map_cons]
    unfold allOf
    rw [ih]
    rfl
theorem MK.snoc {ms : List Nat} {m : Nat} (h : MK ms) (hm : m = ms.length ∨ m ∈ ms) : MK (ms ++ [m]) := by
  intro i x e
  by_cases hi : i < ms.length
  · rw [List.getElem?_append_left hi] at e
    obtain ⟨h1, h2⟩ := h i x e
    exact ⟨h1, by rw [List.getElem?_append_left (by omega)]; exact h2⟩
  · rw [List.getElem?_append_right (by omega)] at e
    have hz : i - ms.length = 0 := by
      cases q : i - ms.length with
      | zero => rfl
      | succ z => rw [q] at e; cases e
    rw [hz] at e
    cases e
    have : i = ms.length := by omega
    subst this
    rcases hm with rfl | hm
    · exact ⟨Nat.le_refl _, by simp⟩
    · obtain ⟨j, hj, ej⟩ := List.getElem_of_mem hm
      obtain ⟨h1, h2⟩ := h j m (List.getElem?_eq_some_iff.mpr ⟨hj, ej⟩)
      exact ⟨by omega, by rw [List.getElem?_append_left (by omega)]; exact h2⟩
theorem rg6 {k : Nat} (h : k ≤ 6) : inRg k = true := by
  have : k = 0 ∨ k = 1 ∨ k = 2 ∨ k = 3 ∨ k = 4 ∨ k = 5 ∨ k = 6 := by omega
  rcases this with rfl | rfl | rfl | rfl | rfl | rfl | rfl <;> decide
theorem rng_at {cnt i : Nat} {t : T} (et : (rngT 0 cnt)[i]? = some t) : i < cnt ∧ t = .int (i : Nat) := by
  have hi : i < cnt := by
    have := (List.getElem?_eq_some_iff.mp et).1
    unfold rngT at this
    simpa using this
  refine ⟨hi, ?_⟩
  unfold rngT at et
  rw [List.getElem?_map, List.getElem?_range (by simpa using hi)] at et
  simpa using et.symm
theorem rng_len (cnt : Nat) : (rngT 0 cnt).length = cnt := by unfold rngT; simp
theorem drawn_ok (n k cnt : Nat) (c : Cell) (P : PotC c k) (hk : k + cnt < 2 ^ 39) (hc : cnt ≤ 6) :
    ∃ (ms : List Nat) (c' : Cell), MK ms ∧ ms.length = cnt ∧ r__law_drawn_marks (cf (n + 2)) [.r 0, .t (.int cnt)] [c] = .ok (.t (mT ms)) [c'] ∧ PotC c' (k + cnt) := by
  have loop := forL_inv (step := turn (aName 3) (sSeq (sAsg (aName 2) (g2 (gBin false .Add) (gVar 2) (Py.gTup (Py.gCons (gL (cf (n + 2) (.g "_law_of")) (Py.gCons (gVar 0) (Py.gCons (g2 (gBin false .Add) (Py.gLst false (Py.gCons (gVar 3) Py.gNil)) (gL (gSortedSet false) (Py.gCons (gVar 2) Py.gNil))) Py.gNil))) Py.gNil)))) sNext))
    (ts := rngT 0 cnt) (fun i env hh => ∃ (ms : List Nat) (x3 : Option RV) (c' : Cell), env = [some (.r 0), some (.t (.int cnt)), some (.t (mT ms)), x3] ∧ ms.length = i ∧ MK ms ∧ hh = [c'] ∧ PotC c' (k + i)) 0
    (env := [some (.r 0), some (.t (.int cnt)), some (.t (.tup [])), none]) (h := [c]) ⟨[], none, c, rfl, rfl, (fun _ _ e => nomatch e), rfl, P⟩ ?_
  · obtain ⟨env', h', ef, ms, x3, c', rfl, hl, hm, rfl, PP⟩ := loop
    rw [rng_len] at hl PP
    refine ⟨ms, c', hm, by omega, ?_, by simpa using PP⟩
    have e1 : Py.iRng1 (Py.gCons (gVar 1) Py.gNil) [some (.r 0), some (.t (.int cnt)), some (.t (.tup [])), none] [c] = .ok (rngT 0 cnt) [c] := iRng1_at rfl (rg6 hc)
    have e2 : sAsg (aName 2) (Py.gTup Py.gNil) [some (.r 0), some (.t (.int cnt)), none, none] [c] = .next [some (.r 0), some (.t (.int cnt)), some (.t (.tup [])), none] [c] := by
      simp [sAsg, aName, Py.gTup, Py.gNil, toTs, Py.fresh, Res.bind, Res.sb]
    have e3 : sFor (Py.iRng1 (Py.gCons (gVar 1) Py.gNil)) (aName 3) (sSeq (sAsg (aName 2) (g2 (gBin false .Add) (gVar 2) (Py.gTup (Py.gCons (gL (cf (n + 2) (.g "_law_of")) (Py.gCons (gVar 0) (Py.gCons (g2 (gBin false .Add) (Py.gLst false (Py.gCons (gVar 3) Py.gNil)) (gL (gSortedSet false) (Py.gCons (gVar 2) Py.gNil))) Py.gNil))) Py.gNil)))) sNext) [some (.r 0), some (.t (.int cnt)), some (.t (.tup [])), none] [c] = .next [some (.r 0), some (.t (.int cnt)), some (.t (mT ms)), x3] [c'] := by
      unfold sFor
      rw [e1]
      exact ef
    exact run_ret (h' := [c']) rfl ((sSeqN e2).trans ((sSeqN e3).trans (sSeqR rfl)))
  · rintro i t env hh et ⟨ms, x3, c', rfl, hl, hm, rfl, PP⟩
    obtain ⟨hi, rfl⟩ := rng_at et
    have hl' : ms.length = i := by omega
    have hu := uniqI_len (ms.map fun m => ((m : Nat) : Int))
    rw [List.length_map] at hu
    obtain ⟨x, c2, hx, e, P'⟩ := of0 n (k + i) c' (.int (i : Nat) :: (uniqI (ms.map fun m => ((m : Nat) : Int))).map .int) (by simpa using PP) (by omega) (by simp) (by rw [List.length_cons, List.length_map]; omega)
    have hx2 : ∃ m : Nat, x = .int (m : Nat) ∧ (m = ms.length ∨ m ∈ ms) := by
      rcases List.mem_cons.mp hx with rfl | hx
      · exact ⟨i, rfl, .inl hl'.symm⟩
      · obtain ⟨z, hz, rfl⟩ := List.mem_map.mp hx
        rw [uniqI_mem] at hz
        obtain ⟨m, hm2, rfl⟩ := List.mem_map.mp hz
        exact ⟨m, rfl, .inr hm2⟩
    obtain ⟨m, rfl, hmm⟩ := hx2
    refine ⟨[some (.r 0), some (.t (.int cnt)), some (.t (mT (ms ++ [m]))), some (.t (.int (i : Nat)))], [c2], ?_, ms ++ [m], _, c2, rfl, by simp; omega, hm.snoc hmm, rfl, by rw [show k + (0 + i + 1) = k + i + 1 by omega]; exact P'⟩
    have f1 : i < 64 := by omega
    have f2 : (uniqI (ms.map fun m => ((m : Nat) : Int))).length ≤ sizeLine := small_line (by omega)
    have f3 : 1 + (uniqI (ms.map fun m => ((m : Nat) : Int))).length ≤ sizeLine := small_line (by omega)
    have f3' : (uniqI (ms.map fun m => ((m : Nat) : Int))).length + 1 ≤ sizeLine := small_line (by omega)
    have f4 : i + 1 ≤ sizeLine := small_line (by omega)
    have f5 : 1 ≤ sizeLine := small_line (by omega)
    clear hu hx
    have ai := allInts ms
    simp [turn, aName, sSeq, sAsg, sNext, g2, gL, Py.gCons, Py.gNil, gVar, Res.bind, Res.sb, SRes.then, look, gSortedSet, ai, f1, f2, f3, f3', f4, f5, Py.fresh, Py.gLst, toTs, toT, gBin, binOpT, Py.gTup, e, hl', mT]
/-- all marks of so many things -/
def grow (mss : List (List Nat)) : List (List Nat) := mss.flatMap fun ms => (ms.length :: (List.range ms.length).filter fun m => ms.contains m).map fun m => ms ++ [m]
def allMK : Nat → List (List Nat)
  | 0 => [[]]
  | n + 1 => grow (allMK n)
theorem MK.init {ms : List Nat} {m : Nat} (h : MK (ms ++ [m])) : MK ms ∧ (m = ms.length ∨ m ∈ ms) := by
  refine ⟨fun i x e => ?_, ?_⟩
  · have hi := (List.getElem?_eq_some_iff.mp e).1
    obtain ⟨h1, h2⟩ := h i x (by rw [List.getElem?_append_left hi]; exact e)
    exact ⟨h1, by rw [List.getElem?_append_left (by omega)] at h2; exact h2⟩
  · obtain ⟨h1, h2⟩ := h ms.length m (by simp)
    by_cases hm : m = ms.length
    · exact .inl hm
    · rw [List.getElem?_append_left (by omega)] at h2
      exact .inr (List.mem_of_getElem? h2)
theorem mk_mem : ∀ (n : Nat) (ms : List Nat), ms.length = n → MK ms → ms ∈ allMK n
  | 0, ms, hl, _ => by
    rw [List.length_eq_zero_iff.mp hl]
    exact List.mem_singleton.mpr rfl
  | n + 1, ms, hl, h => by
    have hne : ms ≠ [] := fun z => by rw [z] at hl; cases hl
    obtain ⟨ks, m, rfl⟩ : ∃ ks m, ms = ks ++ [m] := ⟨ms.dropLast, ms.getLast hne, (List.dropLast_concat_getLast hne).symm⟩
    rw [List.length_append, List.length_singleton] at hl
    obtain ⟨h1, h2⟩ := h.init
    have ih := mk_mem n ks (by omega) h1
    unfold allMK grow
    rw [List.mem_flatMap]
    refine ⟨ks, ih, List.mem_map.mpr ⟨m, ?_, rfl⟩⟩
    rcases h2 with rfl | h2
    · exact List.mem_cons_self
    · refine List.mem_cons_of_mem _ (List.mem_filter.mpr ⟨?_, by simpa using h2⟩)
      obtain ⟨j, hj, ej⟩ := List.getElem_of_mem h2
      obtain ⟨q1, _⟩ := h1 j m (List.getElem?_eq_some_iff.mpr ⟨hj, ej⟩)
      exact List.mem_range.mpr (by omega)
theorem MK.le {ms : List Nat} (h : MK ms) {m : Nat} (hm : m ∈ ms) : m < ms.length := by
  obtain ⟨j, hj, ej⟩ := List.getElem_of_mem hm
  obtain ⟨q1, _⟩ := h j m (List.getElem?_eq_some_iff.mpr ⟨hj, ej⟩)
  omega
end Q01

set_option Elab.async false
set_option linter.all false
set_option maxRecDepth 100000
set_option maxHeartbeats 4000000
namespace Q01
open PySem PySem.Spec PyProof.Rows L2 Lw LamX Py
def isT (r : Res RV) : Bool := match r with
  | .ok (.t (.bl true)) [] => true
  | _ => false
theorem isT_ok {r : Res RV} (h : isT r = true) : r = .ok (.t (.bl true)) [] := by
  unfold isT at h
  split at h
  · rfl
  · cases h
def bareL : List T := [.int 1, .int 2, .int 3, .int 4, .int 0, .int 5, .bl true, .non, .str "1", .tup [.int 1]]
theorem tkO : oddL.all (fun t => isT (r__law_is_taken_right (cf 28) [.t t] [])) = true := by decide +kernel
theorem brO : (bareL ++ oddL).all (fun t => isT (r__law_is_bare_right (cf 28) [.t t] [])) = true := by decide +kernel
theorem std3 : (allMK 3).all (fun ms => isT (r__law_is_standing_right (cf 28) [.t (mT ms)] [])) = true := by decide +kernel
theorem std4 : (allMK 4).all (fun ms => isT (r__law_is_standing_right (cf 28) [.t (mT ms)] [])) = true := by decide +kernel
theorem std3' : (allMK 3).all (fun ms => isT (r__law_is_standing_right (cf 29) [.t (mT ms)] [])) = true := by decide +kernel
theorem std4' : (allMK 4).all (fun ms => isT (r__law_is_standing_right (cf 29) [.t (mT ms)] [])) = true := by decide +kernel
end Q01

set_option Elab.async false
set_option linter.all false
set_option maxRecDepth 100000
set_option maxHeartbeats 4000000
namespace Q01
open PySem PySem.Spec PyProof.Rows L2 Lw LamX Py
theorem std5 : (allMK 5).all (fun ms => isT (r__law_is_standing_right (cf 28) [.t (mT ms)] [])) = true := by decide +kernel
theorem std6a : ((allMK 6).take 50).all (fun ms => isT (r__law_is_standing_right (cf 28) [.t (mT ms)] [])) = true := by decide +kernel
theorem std6b : (((allMK 6).drop 50).take 50).all (fun ms => isT (r__law_is_standing_right (cf 28) [.t (mT ms)] [])) = true := by decide +kernel
theorem std6c : (((allMK 6).drop 100).take 50).all (fun ms => isT (r__law_is_standing_right (cf 28) [.t (mT ms)] [])) = true := by decide +kernel
theorem std6d : ((allMK 6).drop 150).all (fun ms => isT (r__law_is_standing_right (cf 28) [.t (mT ms)] [])) = true := by decide +kernel
theorem std6 : (allMK 6).all (fun ms => isT (r__law_is_standing_right (cf 28) [.t (mT ms)] [])) = true := by
  rw [← List.take_append_drop 50 (allMK 6), List.all_append, std6a, Bool.true_and, ← List.take_append_drop 50 ((allMK 6).drop 50), List.all_append, std6b, Bool.true_and, List.drop_drop, ← List.take_append_drop 50 ((allMK 6).drop 100), List.all_append, std6c, Bool.true_and, List.drop_drop]
  exact std6d
theorem std_ok (ms : List Nat) (h : MK ms) (h3 : 3 ≤ ms.length) (h6 : ms.length ≤ 6) : r__law_is_standing_right (cf 28) [.t (mT ms)] [] = .ok (.t (.bl true)) [] := by
  have hm : ∀ n, ms.length = n → ms ∈ allMK n := fun n e => mk_mem n ms e h
  have : ms.length = 3 ∨ ms.length = 4 ∨ ms.length = 5 ∨ ms.length = 6 := by omega
  rcases this with e | e | e | e
  · exact isT_ok (List.all_eq_true.mp std3 ms (hm _ e))
  · exact isT_ok (List.all_eq_true.mp std4 ms (hm _ e))
  · exact isT_ok (List.all_eq_true.mp std5 ms (hm _ e))
  · exact isT_ok (List.all_eq_true.mp std6 ms (hm _ e))
end Q01

set_option Elab.async false
set_option linter.all false
set_option maxRecDepth 100000
set_option maxHeartbeats 4000000
namespace Q01
open PySem PySem.Spec PyProof.Rows L2 Lw LamX Py
theorem PotC.mono {c : Cell} {k k' : Nat} (P : PotC c k) (h : k ≤ k') : PotC c k' := by
  obtain ⟨a, b, n, rfl, hb, h0, h1⟩ := P
  exact ⟨a, b, n, rfl, hb, h0, by omega⟩
theorem isM3 : (allMK 3).all (fun ms => isM (mT ms)) = true := by decide +kernel
theorem isM4 : (allMK 4).all (fun ms => isM (mT ms)) = true := by decide +kernel
theorem isM5 : (allMK 5).all (fun ms => isM (mT ms)) = true := by decide +kernel
theorem isM6 : (allMK 6).all (fun ms => isM (mT ms)) = true := by decide +kernel
theorem isM_ok (ms : List Nat) (h : MK ms) (h3 : 3 ≤ ms.length) (h6 : ms.length ≤ 6) : isM (mT ms) = true := by
  have hm : ∀ n, ms.length = n → ms ∈ allMK n := fun n e => mk_mem n ms e h
  have : ms.length = 3 ∨ ms.length = 4 ∨ ms.length = 5 ∨ ms.length = 6 := by omega
  rcases this with e | e | e | e
  · exact List.all_eq_true.mp isM3 ms (hm _ e)
  · exact List.all_eq_true.mp isM4 ms (hm _ e)
  · exact List.all_eq_true.mp isM5 ms (hm _ e)
  · exact List.all_eq_true.mp isM6 ms (hm _ e)
theorem gv_mT {ms : List Nat} (h : MK ms) (h6 : ms.length ≤ 6) : gv (mT ms) = true := by
  simp only [gv, mT, Bool.and_eq_true, decide_eq_true_eq]
  exact ⟨sm_mT ms fun m hm => by have := h.le hm; omega, by rw [List.length_map]; omega⟩
theorem new_at (n : Nat) (ms : List Nat) (h : Hs) (hM : MK ms) (h3 : 3 ≤ ms.length) (h6 : ms.length ≤ 6) : gNew (cf (n + 3)) "Standing" false [.t (mT ms)] h = .ok (.t (sObj (mT ms))) h := by
  have := are_marks_gv n (mT ms) (gv_mT hM h6)
  rw [isM_ok ms hM h3 h6] at this
  exact new_ok n (mT ms) h this
/-- 3 + a draw, and marks drawn -/
theorem drawn_at (n k : Nat) (c : Cell) (env : Ev) (he : env[0]? = some (some (.r 0))) (P : PotC c k) (hk : k + 7 < 2 ^ 39) :
    ∃ (ms : List Nat) (c' : Cell), MK ms ∧ 3 ≤ ms.length ∧ ms.length ≤ 6 ∧ PotC c' (k + 7) ∧
      gL (cf (n + 3) (.g "_law_drawn_marks")) (Py.gCons (gVar 0) (Py.gCons (g2 (gBin false .Add) (gC (.int 3)) (gL (cf (n + 3) (.g "_law_take")) (Py.gCons (gVar 0) (Py.gCons (gC (.int 4)) Py.gNil)))) Py.gNil)) env [c] = .ok (.t (mT ms)) [c'] := by
  obtain ⟨d, c1, hd, e1, P1⟩ := take0 (n + 2) k c 4 P (by omega) (by decide) (by decide)
  have hd4 : d < 4 := by simpa using hd
  obtain ⟨ms, c2, hM, hl, e2, P2⟩ := drawn_ok n (k + 1) (3 + d) c1 P1 (by omega) (by omega)
  refine ⟨ms, c2, hM, by omega, by omega, PotC.mono P2 (by omega), ?_⟩
  have ev : ∀ h : Hs, gVar 0 env h = .ok (.r 0) h := fun h => by
    unfold gVar; rw [he]
  have ea : g2 (gBin false .Add) (gC (.int 3)) (gL (cf (n + 3) (.g "_law_take")) (Py.gCons (gVar 0) (Py.gCons (gC (.int 4)) Py.gNil))) env [c] = .ok (.t (.int ((3 + d : Nat) : Int))) [c1] := by
    rw [g2e (v := .t (.int 3)) (h1 := [c]) (w := .t (.int d)) (h2 := [c1]) rfl (by rw [gL2 (w := .t (.int 4)) (h2 := [c]) (ev [c]) rfl]; exact e1)]
    have : (3 : Int) + (d : Int) = ((3 + d : Nat) : Int) := by omega
    simp [gBin, look, binOpT, Py.fresh]
  rw [gL2 (ev [c]) ea, show cf (n + 3) (.g "_law_drawn_marks") = loc (r__law_drawn_marks (cf (n + 2))) from c__law_drawn_marks (n + 2)]
  exact loc_one (h := [c1]) (p := 0) (h' := []) rfl rfl e2
theorem bent_at (n k : Nat) (c : Cell) (h : Hs) (p : Nat) (ms : List Nat) (hp : h[p]? = some c) (P : PotC c k) (hk : k + 3 < 2 ^ 39) (h1 : ms ≠ []) (h2 : ms.length ≤ 7) (hm : ∀ m ∈ ms, m ≤ 6) :
    ∃ (v : T) (c' : Cell), gv v = true ∧ cf (n + 4) (.g "_law_bent_value") [.r p, .t (mT ms)] h = .ok (.t v) (h.set p c') ∧ PotC c' (k + 3) := by
  obtain ⟨v, c', j, hv, e, P', hj⟩ := bent_tup n k c ms P hk h1 h2 hm
  refine ⟨v, c', hv, ?_, PotC.mono P' (by omega)⟩
  rw [show cf (n + 4) (.g "_law_bent_value") = loc (r__law_bent_value (cf (n + 3))) from c__law_bent_value (n + 3)]
  exact loc_one rfl hp e
theorem eq_at (ms os : List Nat) (env : Ev) (h : Hs) (e1 : env[1]? = some (some (.t (mT ms)))) (e2 : env[2]? = some (some (.t (mT os)))) (hM : MK ms) (h3 : 3 ≤ ms.length) (h6 : ms.length ≤ 6) (oM : MK os) (o3 : 3 ≤ os.length) (o6 : os.length ≤ 6) :
    gAsB (g2 (bySelf (ownNe B (cf 29)) (gEq true)) (g2 (bySelf (ownEq B (cf 29)) (gEq false)) (gL (gNew (cf 29) "Standing" false) (Py.gCons (gVar 1) Py.gNil)) (gL (gNew (cf 29) "Standing" false) (Py.gCons (gVar 2) Py.gNil))) (g2 (bySelf (ownEq B (cf 29)) (gEq false)) (gVar 1) (gVar 2))) env h = .ok false h := by
  have v1 : gVar 1 env h = .ok (.t (mT ms)) h := by unfold gVar; rw [e1]
  have v2 : gVar 2 env h = .ok (.t (mT os)) h := by unfold gVar; rw [e2]
  have n1 : gL (gNew (cf 29) "Standing" false) (Py.gCons (gVar 1) Py.gNil) env h = .ok (.t (sObj (mT ms))) h := by
    rw [gL1 v1]; exact new_at 26 ms h hM h3 h6
  have n2 : gL (gNew (cf 29) "Standing" false) (Py.gCons (gVar 2) Py.gNil) env h = .ok (.t (sObj (mT os))) h := by
    rw [gL1 v2]; exact new_at 26 os h oM o3 o6
  have q := eqT_mT ms os
  generalize PyData.eqv (.tuple (ms.map fun m => PyData.int ((m : Nat) : Int))) (.tuple (os.map fun m => PyData.int ((m : Nat) : Int))) = b at q
  have rE : r_Standing___eq__ (cf 28) [.t (sObj (mT ms)), .t (sObj (mT os))] [] = .ok (.t (.bl b)) [] := by
    have a1 : gL (gR2 (fIs B)) (Py.gCons (gVar 1) (Py.gCons (gC (.cl (.own "Standing"))) Py.gNil)) [some (.t (sObj (mT ms))), some (.t (sObj (mT os)))] [] = .ok (.t (.bl true)) [] := by
      rw [gL2 (v := .t (sObj (mT os))) (h1 := []) (w := .t (.cl (.own "Standing"))) (h2 := []) rfl rfl]
      rfl
    have a2 : g2 (bySelf (ownEq B (cf 28)) (gEq false)) (g1 (gAttr B (cf 28) "_marks") (gVar 0)) (g1 (gAttr B (cf 28) "_marks") (gVar 1)) [some (.t (sObj (mT ms))), some (.t (sObj (mT os)))] [] = .ok (.t (.bl b)) [] := by
      rw [g2e (v := .t (mT ms)) (h1 := []) (w := .t (mT os)) (h2 := []) rfl rfl]
      show (match Py.eqT (mT ms) (mT os) with | some b => Res.ok (RV.t (.bl (if false = true then !b else b))) [] | none => Res.stuck) = _
      rw [q]
      rfl
    refine run_ret (h' := []) rfl (sSeqR (sRetE (v := .t (.bl b)) (h1 := []) ?_))
    exact (vAndT a1).trans a2
  have x1 : g2 (bySelf (ownEq B (cf 29)) (gEq false)) (gL (gNew (cf 29) "Standing" false) (Py.gCons (gVar 1) Py.gNil)) (gL (gNew (cf 29) "Standing" false) (Py.gCons (gVar 2) Py.gNil)) env h = .ok (.t (.bl b)) h := by
    rw [g2e n1 n2]
    have g : (B.cls.contains "Standing" && B.mets.contains ("Standing", "__eq__") && B.nfs.contains ("Standing", .own "Standing") && notErr (sObj (mT os))) = true := by
      rw [show notErr (sObj (mT os)) = true from rfl]
      decide +kernel
    have tg : B.tag (sObj (mT os)) = some (.own "Standing") := rfl
    show ownEq B (cf 29) (.t (sObj (mT ms))) (.t (sObj (mT os))) h = _
    unfold ownEq
    simp only [look, sObj]
    rw [show B.tag (T.obj "Standing" [("_marks", mT os)]) = some (.own "Standing") from rfl]
    dsimp only
    rw [if_pos g, show cf 29 (.m "Standing" "__eq__") = loc (r_Standing___eq__ (cf 28)) from c_Standing___eq__ 28]
    exact loc_none rfl rE
  have x2 : g2 (bySelf (ownEq B (cf 29)) (gEq false)) (gVar 1) (gVar 2) env h = .ok (.t (.bl b)) h := by
    rw [g2e v1 v2]
    show (match Py.eqT (mT ms) (mT os) with | some b => Res.ok (RV.t (.bl (if false = true then !b else b))) h | none => Res.stuck) = _
    rw [q]
    rfl
  refine gAsBB ?_
  rw [g2e x1 x2]
  cases b <;> rfl
end Q01

set_option Elab.async false
set_option linter.all false
set_option maxRecDepth 100000
set_option maxHeartbeats 4000000
namespace Q01
open PySem PySem.Spec PyProof.Rows L2 Lw LamX Py
theorem gCons1 {a : Ev → M RV} {env : Ev} {h h1 : Hs} {v : RV} (e : a env h = .ok v h1) : Py.gCons a Py.gNil env h = .ok [v] h1 := by
  simp [Py.gCons, Py.gNil, Res.bind, e]
def L1 (ms : List Nat) : List T := [.lst (ms.map nT), .tup (ms.map nT ++ [.int ms.length]), .tup (cutT (ms.map nT) none (some (-1))), .tup (ms.map nT).reverse, .tup [.int 0, .int 1], .tup [.int 0, .int 0, .int 1], .tup [.int 0, .int 1, .int 3]]
def L2' (x : T) : List T := [.tup [.int 0, .int 0, .int 0, .int 0, .int 0, .int 0, .int 0], .tup [.int 0, .bl true, .int 2], .tup [.int 0, .int 0, .int (-1)], x, .tup [], .non, .tup [.int 1, .int 1, .int 1]]
theorem L1_gv (ms : List Nat) (hM : MK ms) (h6 : ms.length ≤ 6) : ∀ v ∈ L1 ms, gv v = true := by
  have hS : (ms.map nT).all Sm = true := sm_mT ms fun m hm => by have := hM.le hm; omega
  have hl : (ms.map nT).length ≤ 6 := by rw [List.length_map]; exact h6
  have q := sm_cut (lo := none) (hi := some (-1)) hS
  have g1 : ∀ {xs : List T}, xs.all Sm = true → xs.length ≤ 20 → gv (.tup xs) = true := fun a b => by
    simp only [gv, Bool.and_eq_true, decide_eq_true_eq]; exact ⟨a, b⟩
  intro v hv
  simp only [L1, List.mem_cons, List.mem_nil_iff, or_false] at hv
  rcases hv with rfl | rfl | rfl | rfl | rfl | rfl | rfl
  · simp only [gv, Bool.and_eq_true, decide_eq_true_eq]; exact ⟨hS, by omega⟩
  · refine g1 ?_ (by rw [List.length_append, List.length_singleton]; omega)
    rw [List.all_append, Bool.and_eq_true]
    refine ⟨hS, ?_⟩
    have := sm_nT ms.length (by omega)
    simp [this]
  · exact g1 q.1 (by omega)
  · exact g1 (by rw [List.all_reverse]; exact hS) (by rw [List.length_reverse]; omega)
  · decide +kernel
  · decide +kernel
  · decide +kernel
theorem L2_gv (x : T) : ∀ v ∈ L2' x, v = x ∨ gv v = true := by
  intro v hv
  simp only [L2', List.mem_cons, List.mem_nil_iff, or_false] at hv
  rcases hv with rfl | rfl | rfl | rfl | rfl | rfl | rfl
  · exact .inr (by decide +kernel)
  · exact .inr (by decide +kernel)
  · exact .inr (by decide +kernel)
  · exact .inl rfl
  · exact .inr rfl
  · exact .inr rfl
  · exact .inr (by decide +kernel)
theorem taken_at (v : T) (h : Hs) (hv : gv v = true ∨ v ∈ oddL) : cf 29 (.g "_law_is_taken_right") [.t v] h = .ok (.t (.bl true)) h := by
  rw [show cf 29 (.g "_law_is_taken_right") = loc (r__law_is_taken_right (cf 28)) from c__law_is_taken_right 28]
  refine loc_none (h' := []) rfl ?_
  rcases hv with hv | hv
  · exact taken_ok 25 v hv
  · exact isT_ok (List.all_eq_true.mp tkO v hv)
theorem bare_at (v : T) (h : Hs) (hv : v ∈ bareL ++ oddL) : cf 29 (.g "_law_is_bare_right") [.t v] h = .ok (.t (.bl true)) h := by
  rw [show cf 29 (.g "_law_is_bare_right") = loc (r__law_is_bare_right (cf 28)) from c__law_is_bare_right 28]
  exact loc_none (h' := []) rfl (isT_ok (List.all_eq_true.mp brO v hv))
/-- a comprehension over things each of which a call says True of -/
theorem all_true {x : Str} {i : Nat} {it : Ev → M (List T)} {env : Ev} {h h1 : Hs} {ts : List T} (hi : i < env.length) (hit : it env h = .ok ts h1) (hl : ts.length ≤ 1000) (hc : ∀ t ∈ ts, ∀ h, cf 29 (.g x) [.t t] h = .ok (.t (.bl true)) h) :
    gL (gR1 fAll) (Py.gCons (gLc false it (aName i) cYes (gL (cf 29 (.g x)) (Py.gCons (gVar i) Py.gNil)) [i]) Py.gNil) env h = .ok (.t (.bl true)) h1 := by
  have e : gLc false it (aName i) cYes (gL (cf 29 (.g x)) (Py.gCons (gVar i) Py.gNil)) [i] env h = .ok (.t (.lst (ts.map fun _ => .bl true))) h1 := by
    unfold gLc
    rw [hit]
    show (match lcAll _ ts h1 with | .ok us h2 => Py.fresh false (.lst us) h2 | _ => Res.stuck) = _
    rw [lcAll_map (f := fun _ => .bl true) fun t ht => ?_]
    · unfold Py.fresh
      dsimp only
      rw [if_pos (by rw [List.length_map]; exact small_line (by omega))]
      rfl
    · unfold lcStep
      show ((gL (cf 29 (.g x)) (Py.gCons (gVar i) Py.gNil) ((wipeE env [i]).set i (some (.t t))) h1).bind _) = _
      have ev : gVar i ((wipeE env [i]).set i (some (.t t))) h1 = .ok (.t t) h1 := by
        unfold gVar
        rw [List.getElem?_set_self (by simpa [wipeE] using hi)]
      rw [gL1 ev, hc t ht]
      rfl
  rw [gL1 e]
  have : allOf blOf (ts.map fun _ => T.bl true) = some (ts.map fun _ => true) := by
    have := all_bl (ts.map fun _ => true)
    rw [List.map_map] at this
    exact this
  simp [gR1, look, fAll, Py.listOf, this]
theorem right_ok (k : Nat) (c : Cell) (P : PotC c k) (hk : k + 60 < 2 ^ 39) :
    ∃ c' : Cell, r__law_right (cf 29) [.r 0] [c] = .ok (.t (.bl true)) [c'] ∧ PotC c' (k + 60) := by
  let e0 : Ev := [some (.r 0), none, none, none, none, none]
  obtain ⟨ms, c1, hM, h3, h6, P1, d1⟩ := drawn_at 26 k c e0 rfl P (by omega)
  obtain ⟨os, c2, oM, o3, o6, P2, d2⟩ := drawn_at 26 (k + 7) c1 e0 rfl P1 (by omega)
  let e1 : Ev := [some (.r 0), some (.t (mT ms)), some (.t (mT os)), none, none, none]
  have s1 : sAsg (aTup 2 (aCons (aName 1) (aCons (aName 2) aNil))) (Py.gTup (Py.gCons (gL (cf 29 (.g "_law_drawn_marks")) (Py.gCons (gVar 0) (Py.gCons (g2 (gBin false .Add) (gC (.int 3)) (gL (cf 29 (.g "_law_take")) (Py.gCons (gVar 0) (Py.gCons (gC (.int 4)) Py.gNil)))) Py.gNil))) (Py.gCons (gL (cf 29 (.g "_law_drawn_marks")) (Py.gCons (gVar 0) (Py.gCons (g2 (gBin false .Add) (gC (.int 3)) (gL (cf 29 (.g "_law_take")) (Py.gCons (gVar 0) (Py.gCons (gC (.int 4)) Py.gNil)))) Py.gNil))) Py.gNil))) e0 [c] = .next e1 [c2] := by
    have : Py.gTup (Py.gCons (gL (cf 29 (.g "_law_drawn_marks")) (Py.gCons (gVar 0) (Py.gCons (g2 (gBin false .Add) (gC (.int 3)) (gL (cf 29 (.g "_law_take")) (Py.gCons (gVar 0) (Py.gCons (gC (.int 4)) Py.gNil)))) Py.gNil))) (Py.gCons (gL (cf 29 (.g "_law_drawn_marks")) (Py.gCons (gVar 0) (Py.gCons (g2 (gBin false .Add) (gC (.int 3)) (gL (cf 29 (.g "_law_take")) (Py.gCons (gVar 0) (Py.gCons (gC (.int 4)) Py.gNil)))) Py.gNil))) Py.gNil)) e0 [c] = .ok (.t (.tup [mT ms, mT os])) [c2] := by
      generalize gL (cf 29 (.g "_law_drawn_marks")) (Py.gCons (gVar 0) (Py.gCons (g2 (gBin false .Add) (gC (.int 3)) (gL (cf 29 (.g "_law_take")) (Py.gCons (gVar 0) (Py.gCons (gC (.int 4)) Py.gNil)))) Py.gNil)) = G at *
      simp [Py.gTup, Py.gCons, Py.gNil, d1, d2, Res.bind, toTs, toT, Py.fresh, Q01.l1]
    unfold sAsg
    rw [this]
    rfl
  have b1 : gL (cf 29 (.g "_law_is_standing_right")) (Py.gCons (gVar 1) Py.gNil) e1 [c2] = .ok (.t (.bl true)) [c2] := by
    rw [gL1 (v := .t (mT ms)) (h1 := [c2]) rfl, show cf 29 (.g "_law_is_standing_right") = loc (r__law_is_standing_right (cf 28)) from c__law_is_standing_right 28]
    exact loc_none (h' := []) rfl (std_ok ms hM h3 h6)
  have b2 := eq_at ms os e1 [c2] rfl rfl hM h3 h6 oM o3 o6
  have cnd : bOr (bNot (gTru (gL (cf 29 (.g "_law_is_standing_right")) (Py.gCons (gVar 1) Py.gNil)))) (gAsB (g2 (bySelf (ownNe B (cf 29)) (gEq true)) (g2 (bySelf (ownEq B (cf 29)) (gEq false)) (gL (gNew (cf 29) "Standing" false) (Py.gCons (gVar 1) Py.gNil)) (gL (gNew (cf 29) "Standing" false) (Py.gCons (gVar 2) Py.gNil))) (g2 (bySelf (ownEq B (cf 29)) (gEq false)) (gVar 1) (gVar 2)))) e1 [c2] = .ok false [c2] := by
    unfold bOr
    rw [bNotB (gTruB b1)]
    exact b2
  have hS : (ms.map nT).all Sm = true := sm_mT ms fun m hm => by have := hM.le hm; omega
  let e3 : Ev := [some (.r 0), some (.t (mT ms)), some (.t (mT os)), some (.r 1), none, none]
  have s3 : sAsg (aName 3) (Py.gLst true (Py.gCons (gL (gList false) (Py.gCons (gVar 1) Py.gNil)) (Py.gCons (g2 (gBin false .Add) (gVar 1) (Py.gTup (Py.gCons (gL (gR1 fLen) (Py.gCons (gVar 1) Py.gNil)) Py.gNil))) (Py.gCons (g3 (gSlc false) (gVar 1) (gPart none) (gPart (some (g1 gNeg (gC (.int 1)))))) (Py.gCons (g1 (gRev false) (gVar 1)) (Py.gCons (Py.gTup (Py.gCons (gC (.int 0)) (Py.gCons (gC (.int 1)) Py.gNil))) (Py.gCons (Py.gTup (Py.gCons (gC (.int 0)) (Py.gCons (gC (.int 0)) (Py.gCons (gC (.int 1)) Py.gNil)))) (Py.gCons (Py.gTup (Py.gCons (gC (.int 0)) (Py.gCons (gC (.int 1)) (Py.gCons (gC (.int 3)) Py.gNil)))) Py.gNil)))))))) e1 [c2] = .next e3 [c2, .lst (L1 ms)] := by
    have l : ms.length ≤ sizeLine := small_line (by omega)
    have a1 : gL (gList false) (Py.gCons (gVar 1) Py.gNil) e1 [c2] = .ok (.t (.lst (ms.map nT))) [c2] := by
      rw [gL1 (v := .t (mT ms)) (h1 := [c2]) rfl]
      simp [gList, look, seqOf, Py.fresh, mT, l]
    have a2 : g2 (gBin false .Add) (gVar 1) (Py.gTup (Py.gCons (gL (gR1 fLen) (Py.gCons (gVar 1) Py.gNil)) Py.gNil)) e1 [c2] = .ok (.t (.tup (ms.map nT ++ [.int ms.length]))) [c2] := by
      refine add_tup (xs := ms.map nT) rfl (tup1 (h1 := [c2]) ?_) (by rw [List.length_map, List.length_singleton]; omega)
      rw [gL1 (v := .t (mT ms)) (h1 := [c2]) rfl]
      simp [gR1, look, fLen, lenT, mT]
    have a3 := slc_at (lo := none) (hi := some (-1)) (i := 1) (env := e1) (h := [c2]) (xs := ms.map nT) (gl := gPart none) (gh := gPart (some (g1 gNeg (gC (.int 1))))) rfl rfl rfl (by rw [List.length_map]; omega)
    have a4 : g1 (gRev false) (gVar 1) e1 [c2] = .ok (.t (.tup (ms.map nT).reverse)) [c2] := by
      have e : gVar 1 e1 [c2] = .ok (.t (mT ms)) [c2] := rfl
      unfold g1
      rw [e]
      simp [Res.bind, gRev, look, Py.fresh, mT, l]
    have a5 : ∀ h : Hs, Py.gTup (Py.gCons (gC (.int 0)) (Py.gCons (gC (.int 1)) Py.gNil)) e1 h = .ok (.t (.tup [.int 0, .int 1])) h := fun h => by simp [Py.gTup, Py.gCons, Py.gNil, gC, Res.bind, toTs, toT, Py.fresh, Q01.l1]
    have a6 : ∀ h : Hs, Py.gTup (Py.gCons (gC (.int 0)) (Py.gCons (gC (.int 0)) (Py.gCons (gC (.int 1)) Py.gNil))) e1 h = .ok (.t (.tup [.int 0, .int 0, .int 1])) h := fun h => by simp [Py.gTup, Py.gCons, Py.gNil, gC, Res.bind, toTs, toT, Py.fresh, Q01.l1]
    have a7 : ∀ h : Hs, Py.gTup (Py.gCons (gC (.int 0)) (Py.gCons (gC (.int 1)) (Py.gCons (gC (.int 3)) Py.gNil))) e1 h = .ok (.t (.tup [.int 0, .int 1, .int 3])) h := fun h => by simp [Py.gTup, Py.gCons, Py.gNil, gC, Res.bind, toTs, toT, Py.fresh, Q01.l1]
    generalize gL (gList false) (Py.gCons (gVar 1) Py.gNil) = G1 at *
    generalize g2 (gBin false .Add) (gVar 1) (Py.gTup (Py.gCons (gL (gR1 fLen) (Py.gCons (gVar 1) Py.gNil)) Py.gNil)) = G2 at *
    generalize g3 (gSlc false) (gVar 1) (gPart none) (gPart (some (g1 gNeg (gC (.int 1))))) = G3 at *
    generalize g1 (gRev false) (gVar 1) = G4 at *
    generalize Py.gTup (Py.gCons (gC (.int 0)) (Py.gCons (gC (.int 1)) Py.gNil)) = G5 at *
    generalize Py.gTup (Py.gCons (gC (.int 0)) (Py.gCons (gC (.int 0)) (Py.gCons (gC (.int 1)) Py.gNil))) = G6 at *
    generalize Py.gTup (Py.gCons (gC (.int 0)) (Py.gCons (gC (.int 1)) (Py.gCons (gC (.int 3)) Py.gNil))) = G7 at *
    refine sAsgN (v := .r 1) ?_
    simp [Py.gLst, Py.gCons, Py.gNil, a1, a2, a3, a4, a5, a6, a7, toTs, toT, Py.fresh, Res.bind, Q01.l1, L1]
  obtain ⟨x, c3, hx, eo, P3⟩ := odd_at 26 (k + 7 + 7) c2 [c2, .lst (L1 ms)] 0 rfl P2 (by omega)
  let e4 : Ev := [some (.r 0), some (.t (mT ms)), some (.t (mT os)), some (.r 2), none, none]
  have s4 : sAsg (aName 3) (g2 (gBin true .Add) (gVar 3) (Py.gLst false (Py.gCons (Py.gTup (Py.gCons (gC (.int 0)) (Py.gCons (gC (.int 0)) (Py.gCons (gC (.int 0)) (Py.gCons (gC (.int 0)) (Py.gCons (gC (.int 0)) (Py.gCons (gC (.int 0)) (Py.gCons (gC (.int 0)) Py.gNil)))))))) (Py.gCons (Py.gTup (Py.gCons (gC (.int 0)) (Py.gCons (gC (.bl true)) (Py.gCons (gC (.int 2)) Py.gNil)))) (Py.gCons (Py.gTup (Py.gCons (gC (.int 0)) (Py.gCons (gC (.int 0)) (Py.gCons (g1 gNeg (gC (.int 1))) Py.gNil)))) (Py.gCons (gL (cf 29 (.g "_law_odd")) (Py.gCons (gVar 0) Py.gNil)) (Py.gCons (Py.gTup Py.gNil) (Py.gCons (gC (.non)) (Py.gCons (Py.gTup (Py.gCons (gC (.int 1)) (Py.gCons (gC (.int 1)) (Py.gCons (gC (.int 1)) Py.gNil)))) Py.gNil))))))))) e3 [c2, .lst (L1 ms)] = .next e4 [c3, .lst (L1 ms), .lst (L1 ms ++ L2' x)] := by
    have ao : gL (cf 29 (.g "_law_odd")) (Py.gCons (gVar 0) Py.gNil) e3 [c2, .lst (L1 ms)] = .ok (.t x) [c3, .lst (L1 ms)] := by
      rw [gL1 (v := .r 0) (h1 := [c2, .lst (L1 ms)]) rfl]
      exact eo
    have al : Py.gLst false (Py.gCons (Py.gTup (Py.gCons (gC (.int 0)) (Py.gCons (gC (.int 0)) (Py.gCons (gC (.int 0)) (Py.gCons (gC (.int 0)) (Py.gCons (gC (.int 0)) (Py.gCons (gC (.int 0)) (Py.gCons (gC (.int 0)) Py.gNil)))))))) (Py.gCons (Py.gTup (Py.gCons (gC (.int 0)) (Py.gCons (gC (.bl true)) (Py.gCons (gC (.int 2)) Py.gNil)))) (Py.gCons (Py.gTup (Py.gCons (gC (.int 0)) (Py.gCons (gC (.int 0)) (Py.gCons (g1 gNeg (gC (.int 1))) Py.gNil)))) (Py.gCons (gL (cf 29 (.g "_law_odd")) (Py.gCons (gVar 0) Py.gNil)) (Py.gCons (Py.gTup Py.gNil) (Py.gCons (gC (.non)) (Py.gCons (Py.gTup (Py.gCons (gC (.int 1)) (Py.gCons (gC (.int 1)) (Py.gCons (gC (.int 1)) Py.gNil)))) Py.gNil))))))) e3 [c2, .lst (L1 ms)] = .ok (.t (.lst (L2' x))) [c3, .lst (L1 ms)] := by
      generalize gL (cf 29 (.g "_law_odd")) (Py.gCons (gVar 0) Py.gNil) = G at *
      simp [Py.gLst, Py.gTup, Py.gCons, Py.gNil, gC, g1, gNeg, ao, toTs, toT, Py.fresh, Res.bind, Q01.l1, L2']
    refine sAsgN (v := .r 2) ?_
    rw [g2e (v := .r 1) (h1 := [c2, .lst (L1 ms)]) rfl al]
    have l14 : (L1 ms).length + (L2' x).length ≤ sizeLine := small_line (by simp [L1, L2'])
    simp [gBin, look, Cell.tree, binOpT, Py.fresh, l14]
  have hne : ms ≠ [] := fun z => by rw [z] at h3; cases h3
  obtain ⟨us, h5, lc, lu, ru, c4, eh5, P4⟩ := lcAll_inv (step := lcStep (aName 4) cYes (gL (cf 29 (.g "_law_bent_value")) (Py.gCons (gVar 0) (Py.gCons (gVar 1) Py.gNil))) (wipeE e4 [4])) (fun i h => ∃ c' : Cell, h = [c', .lst (L1 ms), .lst (L1 ms ++ L2' x)] ∧ PotC c' (k + 15 + 3 * i)) (fun _ u => gv u = true)
    (ts := rngT 0 8) 0 (h := [c3, .lst (L1 ms), .lst (L1 ms ++ L2' x)]) ⟨c3, rfl, PotC.mono P3 (by omega)⟩ (by
      rintro i t h et ⟨c', rfl, P'⟩
      have hi : i < 8 := by
        have := (List.getElem?_eq_some_iff.mp et).1
        rw [show (rngT 0 8).length = 8 from rng_len 8] at this
        exact this
      obtain ⟨v, c5, hv, eb, P5⟩ := bent_at 25 _ c' [c', .lst (L1 ms), .lst (L1 ms ++ L2' x)] 0 ms rfl P' (by omega) hne (by omega) fun m hm => by have := hM.le hm; omega
      refine ⟨v, [c5, .lst (L1 ms), .lst (L1 ms ++ L2' x)], ?_, hv, c5, rfl, PotC.mono P5 (by omega)⟩
      unfold lcStep
      show ((gL (cf 29 (.g "_law_bent_value")) (Py.gCons (gVar 0) (Py.gCons (gVar 1) Py.gNil)) _ _).bind _) = _
      rw [gL2 (v := .r 0) (h1 := [c', .lst (L1 ms), .lst (L1 ms ++ L2' x)]) (w := .t (mT ms)) (h2 := [c', .lst (L1 ms), .lst (L1 ms ++ L2' x)]) rfl rfl, eb]
      rfl)
  subst eh5
  rw [show (rngT 0 8).length = 8 from rng_len 8] at lu P4
  have s5 : sEx (gMet .l mExtend (gVar 3) (Py.gCons (gLc false (Py.iRng1 (Py.gCons (gC (.int 8)) Py.gNil)) (aName 4) cYes (gL (cf 29 (.g "_law_bent_value")) (Py.gCons (gVar 0) (Py.gCons (gVar 1) Py.gNil))) [4]) Py.gNil)) e4 [c3, .lst (L1 ms), .lst (L1 ms ++ L2' x)] = .next e4 [c4, .lst (L1 ms), .lst (L1 ms ++ L2' x ++ us)] := by
    have ec : gLc false (Py.iRng1 (Py.gCons (gC (.int 8)) Py.gNil)) (aName 4) cYes (gL (cf 29 (.g "_law_bent_value")) (Py.gCons (gVar 0) (Py.gCons (gVar 1) Py.gNil))) [4] e4 [c3, .lst (L1 ms), .lst (L1 ms ++ L2' x)] = .ok (.t (.lst us)) [c4, .lst (L1 ms), .lst (L1 ms ++ L2' x)] := by
      unfold gLc
      rw [iRng1_at (j := 8) (h1 := [c3, .lst (L1 ms), .lst (L1 ms ++ L2' x)]) rfl (by decide)]
      show (match lcAll _ (rngT 0 8) [c3, .lst (L1 ms), .lst (L1 ms ++ L2' x)] with | .ok us h2 => Py.fresh false (.lst us) h2 | _ => Res.stuck) = _
      rw [lc]
      unfold Py.fresh
      dsimp only
      rw [if_pos (small_line (by omega))]
      rfl
    have ll : (L1 ms ++ L2' x).length + us.length ≤ sizeLine := small_line (by rw [lu]; simp [L1, L2'])
    unfold sEx gMet
    have ev : gVar 3 e4 [c3, .lst (L1 ms), .lst (L1 ms ++ L2' x)] = .ok (.r 2) [c3, .lst (L1 ms), .lst (L1 ms ++ L2' x)] := rfl
    rw [ev]
    simp only [Res.bind]
    rw [if_pos (by rfl)]
    have ea : Py.gCons (gLc false (Py.iRng1 (Py.gCons (gC (.int 8)) Py.gNil)) (aName 4) cYes (gL (cf 29 (.g "_law_bent_value")) (Py.gCons (gVar 0) (Py.gCons (gVar 1) Py.gNil))) [4]) Py.gNil e4 [c3, .lst (L1 ms), .lst (L1 ms ++ L2' x)] = .ok [.t (.lst us)] [c4, .lst (L1 ms), .lst (L1 ms ++ L2' x)] := by
      exact gCons1 ec
    rw [ea]
    have ex : mExtend (.r 2) [.t (.lst us)] [c4, .lst (L1 ms), .lst (L1 ms ++ L2' x)] = .ok (.t .non) [c4, .lst (L1 ms), .lst (L1 ms ++ L2' x ++ us)] := by
      generalize L1 ms ++ L2' x = Z at *
      simp only [mExtend, cellL, look, List.getElem?_cons_succ, List.getElem?_cons_zero]
      rw [if_pos ll]
      rfl
    show (mExtend (.r 2) [.t (.lst us)] [c4, .lst (L1 ms), .lst (L1 ms ++ L2' x)]).sb e4 _ = _
    rw [ex]
    rfl
  let L : List T := L1 ms ++ L2' x ++ us
  have hL : ∀ v ∈ L, gv v = true ∨ v ∈ oddL := by
    intro v hv
    rcases List.mem_append.mp hv with hv | hv
    · rcases List.mem_append.mp hv with hv | hv
      · exact .inl (L1_gv ms hM h6 v hv)
      · rcases L2_gv x v hv with rfl | h
        · exact .inr hx
        · exact .inl h
    · obtain ⟨j, hj, ej⟩ := List.getElem_of_mem hv
      exact .inl (ru j v (List.getElem?_eq_some_iff.mpr ⟨hj, ej⟩))
  have hLl : L.length ≤ 1000 := by
    show (L1 ms ++ L2' x ++ us).length ≤ 1000
    rw [List.length_append, lu]
    simp [L1, L2']
  let h6' : Hs := [c4, .lst (L1 ms), .fz (.lst L)]
  have t6 := all_true (x := "_law_is_taken_right") (i := 5) (it := Py.iSeq (gVar 3)) (env := e4) (h := [c4, .lst (L1 ms), .lst L]) (h1 := h6') (ts := L) (show 5 < 6 by decide) rfl hLl (fun t ht h => taken_at t h (hL t ht))
  obtain ⟨y, c5, hy, ey, P5⟩ := odd_at 26 _ c4 h6' 0 rfl P4 (by omega)
  let h7 : Hs := [c5, .lst (L1 ms), .fz (.lst L)]
  have it7 : Py.iSeq (Py.gTup (Py.gCons (gC (.int 1)) (Py.gCons (gC (.int 2)) (Py.gCons (gC (.int 3)) (Py.gCons (gC (.int 4)) (Py.gCons (gC (.int 0)) (Py.gCons (gC (.int 5)) (Py.gCons (gC (.bl true)) (Py.gCons (gC (.non)) (Py.gCons (gC (.str "1")) (Py.gCons (Py.gTup (Py.gCons (gC (.int 1)) Py.gNil)) (Py.gCons (gL (cf 29 (.g "_law_odd")) (Py.gCons (gVar 0) Py.gNil)) Py.gNil)))))))))))) e4 h6' = .ok (bareL ++ [y]) h7 := by
    have ao : gL (cf 29 (.g "_law_odd")) (Py.gCons (gVar 0) Py.gNil) e4 h6' = .ok (.t y) h7 := by
      rw [gL1 (v := .r 0) (h1 := h6') rfl]
      exact ey
    generalize gL (cf 29 (.g "_law_odd")) (Py.gCons (gVar 0) Py.gNil) = G at *
    simp [Py.iSeq, Py.gTup, Py.gCons, Py.gNil, gC, ao, toTs, toT, Py.fresh, Res.bind, Q01.l1, seqOf, bareL]
  have t7 := all_true (x := "_law_is_bare_right") (i := 5) (env := e4) (h := h6') (h1 := h7) (ts := bareL ++ [y]) (show 5 < 6 by decide) it7 (by simp [bareL]) (fun t ht h => bare_at t h (by
    rcases List.mem_append.mp ht with ht | ht
    · exact List.mem_append_left _ ht
    · rw [List.mem_singleton.mp ht]
      exact List.mem_append_right _ hy))
  refine ⟨c5, ?_, PotC.mono P5 (by omega)⟩
  refine run_ret (h' := h7) rfl ?_
  refine (sSeqN s1).trans ((sSeqN (env1 := e1) (h1 := [c2]) ?_).trans ((sSeqN s3).trans ((sSeqN s4).trans ((sSeqN s5).trans ((sSeqN (env1 := e4) (h1 := h6') ?_).trans (sSeqR (sRetE t7)))))))
  · rw [sIfF cnd]; rfl
  · rw [sIfF (bNotB (gTruB t6))]; rfl
end Q01

set_option Elab.async false
set_option linter.all false
set_option maxRecDepth 100000
set_option maxHeartbeats 4000000
namespace Q01
open PySem PySem.Spec PyProof.Rows L2 Lw LamX Py
theorem first (s : T) : sIf (bNot (gTru (gL (gR1 fAll) (Py.gCons (gLc false (Py.iSeq (g2 (gBin false .Add) (gL (cf 30 (.g "_law_all_marks")) (Py.gCons (gC (.int 3)) Py.gNil)) (gL (cf 30 (.g "_law_all_marks")) (Py.gCons (gC (.int 4)) Py.gNil)))) (aName 1) cYes (gL (cf 30 (.g "_law_is_standing_right")) (Py.gCons (gVar 1) Py.gNil)) [1]) Py.gNil)))) (sSeq (sRet (gC (.bl false))) sNext) sNext [some (.t s), none, none, none, none] [] = .next [some (.t s), none, none, none, none] [] := by
  kernel_rfl
theorem right_at (k p : Nat) (c : Cell) (h : Hs) (hp : h[p]? = some c) (P : PotC c k) (hk : k + 60 < 2 ^ 39) : ∃ c' : Cell, cf 30 (.g "_law_right") [.r p] h = .ok (.t (.bl true)) (h.set p c') ∧ PotC c' (k + 60) := by
  obtain ⟨c', e, P'⟩ := right_ok k c P hk
  refine ⟨c', ?_, P'⟩
  rw [show cf 30 (.g "_law_right") = loc (r__law_right (cf 29)) from c__law_right 29]
  exact loc_one rfl hp e
theorem law_ok (ns : List Int) (hl : ns.length ≤ 63) : ∃ h', r_law (cfn tab 30) [.t (.scr (ns.map .int))] [] = .ok (.t (.bl true)) h' := by
  let s : T := .scr (ns.map .int)
  let m : Nat := max 1 (min 6 ns.length)
  have hm : m ≤ 6 := by show max 1 (min 6 ns.length) ≤ 6; omega
  obtain ⟨env', h', ef, x1, x2, x3, x4, rfl⟩ := forL_inv (step := turn (aName 2) (sSeq (sAsg (aName 3) (gL (cf 30 (.g "_law_pot")) (Py.gCons (gVar 0) (Py.gCons (gVar 2) Py.gNil)))) (sSeq (sIf (bNot (gTru (gL (gR1 fAll) (Py.gCons (gLc false (Py.iRng1 (Py.gCons (gC (.int 4)) Py.gNil)) (aName 4) cYes (gL (cf 30 (.g "_law_right")) (Py.gCons (gVar 3) Py.gNil)) [4]) Py.gNil)))) (sSeq (sRet (gC (.bl false))) sNext) sNext) sNext)))
    (ts := (List.range m).map fun (i : Nat) => .int i) (fun _ env _ => ∃ x1 x2 x3 x4, env = [some (.t s), x1, x2, x3, x4]) 0 (env := [some (.t s), none, none, none, none]) (h := []) ⟨_, _, _, _, rfl⟩ (by
      rintro i t env h et ⟨x1, x2, x3, x4, rfl⟩
      have hi : i < m := by
        have := (List.getElem?_eq_some_iff.mp et).1
        rw [List.length_map, List.length_range] at this
        exact this
      have ht : t = .int (i : Nat) := by
        rw [List.getElem?_map, List.getElem?_range hi] at et
        simpa using et.symm
      subst ht
      obtain ⟨c, P, ep⟩ := pot_at (cf := cf 30) (h := h) ns i (pot_ 29) (by omega)
      let e3 : Ev := [some (.t s), x1, some (.t (.int i)), some (.r h.length), x4]
      have s1 : sAsg (aName 3) (gL (cf 30 (.g "_law_pot")) (Py.gCons (gVar 0) (Py.gCons (gVar 2) Py.gNil))) [some (.t s), x1, some (.t (.int i)), x3, x4] h = .next e3 (h ++ [c]) :=
        sAsgN (by rw [gL2 (v := .t s) (h1 := h) (w := .t (.int i)) (h2 := h) rfl rfl]; exact ep)
      obtain ⟨us, h5, lc, lu, ru, c4, eh5, P4⟩ := lcAll_inv (step := lcStep (aName 4) cYes (gL (cf 30 (.g "_law_right")) (Py.gCons (gVar 3) Py.gNil)) (wipeE e3 [4])) (fun i h' => ∃ c' : Cell, h' = (h ++ [c]).set h.length c' ∧ PotC c' (60 * i)) (fun _ u => u = .bl true)
        (ts := rngT 0 4) 0 (h := h ++ [c]) ⟨c, by simp, P⟩ (by
          rintro j t h' et ⟨c', rfl, P'⟩
          have hj : j < 4 := by
            have := (List.getElem?_eq_some_iff.mp et).1
            rw [show (rngT 0 4).length = 4 from rng_len 4] at this
            exact this
          obtain ⟨c5, er, P5⟩ := right_at _ h.length c' ((h ++ [c]).set h.length c') (by simp) P' (by omega)
          refine ⟨.bl true, _, ?_, rfl, c5, rfl, PotC.mono P5 (by omega)⟩
          unfold lcStep
          show ((gL (cf 30 (.g "_law_right")) (Py.gCons (gVar 3) Py.gNil) _ _).bind _) = _
          rw [gL1 (v := .r h.length) (h1 := (h ++ [c]).set h.length c') rfl, er, List.set_set]
          rfl)
      subst eh5
      rw [show (rngT 0 4).length = 4 from rng_len 4] at lu
      have ec : gLc false (Py.iRng1 (Py.gCons (gC (.int 4)) Py.gNil)) (aName 4) cYes (gL (cf 30 (.g "_law_right")) (Py.gCons (gVar 3) Py.gNil)) [4] e3 (h ++ [c]) = .ok (.t (.lst us)) ((h ++ [c]).set h.length c4) := by
        unfold gLc
        rw [iRng1_at (j := 4) (h1 := h ++ [c]) rfl (by decide)]
        show (match lcAll _ (rngT 0 4) (h ++ [c]) with | .ok us h2 => Py.fresh false (.lst us) h2 | _ => Res.stuck) = _
        rw [lc]
        unfold Py.fresh
        dsimp only
        rw [if_pos (small_line (by omega))]
        rfl
      have eus : us = [.bl true, .bl true, .bl true, .bl true] := by
        match us, lu, ru with
        | [a, b, c, d], _, ru =>
          rw [ru 0 a rfl, ru 1 b rfl, ru 2 c rfl, ru 3 d rfl]
      subst eus
      have ea : gL (gR1 fAll) (Py.gCons (gLc false (Py.iRng1 (Py.gCons (gC (.int 4)) Py.gNil)) (aName 4) cYes (gL (cf 30 (.g "_law_right")) (Py.gCons (gVar 3) Py.gNil)) [4]) Py.gNil) e3 (h ++ [c]) = .ok (.t (.bl true)) ((h ++ [c]).set h.length c4) := by
        rw [gL1 ec]
        rfl
      refine ⟨e3, (h ++ [c]).set h.length c4, ?_, _, _, _, _, rfl⟩
      show sSeq _ _ [some (.t s), x1, some (.t (.int i)), x3, x4] h = _
      refine (sSeqN s1).trans ((sSeqN (env1 := e3) (h1 := (h ++ [c]).set h.length c4) ?_).trans rfl)
      rw [sIfF (bNotB (gTruB ea))]
      rfl)
  have ei : Py.iSeq (gL (cf 30 (.g "_law_cells")) (Py.gCons (gVar 0) (Py.gCons (gC (.int 6)) Py.gNil))) [some (.t s), none, none, none, none] [] = .ok ((List.range m).map fun (i : Nat) => .int i) [] := by
    unfold Py.iSeq
    rw [gL2 (v := .t s) (h1 := []) (w := .t (.int 6)) (h2 := []) rfl rfl]
    have := cells_at (cf := cf 30) (h := []) ns 6 (cells_ 29) (by decide)
    rw [show ((6 : Nat) : Int) = 6 from rfl] at this
    rw [this]
    rfl
  refine ⟨h'.take 0, run_ret (h' := h') rfl ?_⟩
  refine (sSeqN (first s)).trans ((sSeqN (env1 := [some (.t s), x1, x2, x3, x4]) (h1 := h') ?_).trans (sSeqR rfl))
  unfold sFor
  rw [ei]
  exact ef
end Q01
theorem PySem.Challenge.cw_landingwires_k01_standings_by_their_mark_holds : PySem.Challenge.rw_landingwires_k01_standings_by_their_mark.Holds :=
  Q01.holds Q01.law_ok
