import PyProof.Rows.All
import Wide.All
import OpenK.AllK
import Wide.FinOn
import HandS.ForMost
import HandS.Wide
import HandS.Conv
import HandS.TupAny
import HandS.Deep
import HandS.Steps
import HandS.NoneIn
import HandS.IsInst
import HandS.More
import HandS.Defaults
import HandS.TupLe
import HandS.Deep
import HandS.DeepEq
import HandS.TupSets
import HandS.EndBits
import HandS.WideBits
import HandS.Gcd
import HandS.SortInts
import HandS.Style
import HandS.AnyAll
import HandS.Wide
import HandS.More
import Flt.RightSqrt
import HandS.Nested
import HandS.ExcInit
import HandS.ExcSuper
import HandS.ClsMeth
import KE.KSuper
import KE.KExcSuper
import HandS.IsInst
import HandS.MakeKwOnly
import HandS.Conv
import HandS.ExcOwn
import HandS.ExcIs
import HandS.ExcField
import KE.KExcIs
import HandS.HotCalls
import HandS.WordsExc
import HandS.TryOnly
import HandS.SetBool
import HandS.SetFor
import HandS.Strs
import HandS.SetKeys
import PySem.Challenge.RW_soleseat_k53_whole_some_set_is_free
set_option Elab.async false
set_option maxRecDepth 100000
set_option maxHeartbeats 1000000
set_option linter.all false
/-! Calls where nothing is under repr around: the layer's defs, with one premise more (no guard around). -/
namespace G0
open PySem PySem.Spec PyProof.Rows L2
structure FnG (P : Program) (w : World) (K : PySem.W.Frag) (mg : Str → Option Value) (base : Heap) (CX : CXT)
    (k : Nat) (f : Addr) (fd : FuncData) (ps : List Str) (sp : Sp) : Prop where
  args : ∀ zs G R W, sp zs G R W → zs.length = ps.length
  runs : ∀ (B : Around) (around : List Env) (t : Shared) (G : Hp) (given : Args) (bound : List Value) (zs : List V) (R : VK) (W : XK),
    B.guards = some [] → Room k B → Env0 P w K mg base B around t G →
    BindsTo t fd given (ps.zip bound) → Vals zs bound → sp zs G R W →
    codeAny (model P w) B (.call (.ref f) given) (CR CX around P w G t R W) t
theorem FnG.of {P : Program} {w : World} {K : PySem.W.Frag} {mg : Str → Option Value} {base : Heap} {CX : CXT}
    {k : Nat} {f : Addr} {fd : FuncData} {ps : List Str} {sp : Sp} (F : FnOk P w K mg base CX k f fd ps sp) :
    FnG P w K mg base CX k f fd ps sp :=
  ⟨F.len, fun B around t G given bound zs R W _ hr => F.run B around t G given bound zs R W hr⟩
theorem FnG.mono {P : Program} {w : World} {K : PySem.W.Frag} {mg : Str → Option Value} {base : Heap} {CX : CXT}
    {j k : Nat} {f : Addr} {fd : FuncData} {ps : List Str} {sp : Sp} (F : FnG P w K mg base CX j f fd ps sp) (h : j ≤ k) :
    FnG P w K mg base CX k f fd ps sp :=
  ⟨F.args, fun B around t G given bound zs R W hg hr => F.runs B around t G given bound zs R W hg (hr.mono h)⟩
section
variable {X : Cx} {CX : CXT} {k : Nat} {f : Addr} {fd : FuncData} {ps : List Str} {sp : Sp}
  {dvs : List V} {ds : List Value} {E : XK} {x : Str} {p pos : Pos} {e : Expr} {es : List Expr} {t : TA}
theorem goes {pins : List (Addr × Obj)} {σ : L2.St} {H : Hp} {s : Shared} {Q : VK} {us : List Value} {vs : List V}
    (F : FnG X.prog X.w X.K X.mg X.base CX k f fd ps sp) (free : X.A.guards = some []) (hr : Room k X.A)
    (hb : Binds X.K fd ps ds) (hd : Vals dvs ds) (hx : Passes CX X E)
    (I : Inv X pins σ H s) (r : Vals vs us) (h : sp (vs ++ dvs) H Q E) :
    wpAny (model X.prog X.w) X.A (call (.ref f) us) (EP X pins σ Q) X.xe s := by
  have both : Vals (vs ++ dvs) (us ++ ds) := r.append hd
  have many : (us ++ ds).length = ps.length := both.length.symm.trans (F.args _ _ _ _ h)
  have it := F.runs X.A X.stack s H ⟨us, []⟩ (us ++ ds) (vs ++ dvs) Q E free hr I.env0 (hb s us I.kIn many) both h
  refine wpAny_call (codeAny_mono it fun out s' told => ?_)
  match out, told with
  | .error e, told => exact hx pins σ H s e s' I told
  | .ok (.ret u), told => exact I.after told
  | .ok .next, told => exact told.elim
  | .ok .brk, told => exact told.elim
  | .ok .cont, told => exact told.elim
theorem pe_callG (F : FnG X.prog X.w X.K X.mg X.base CX k f fd ps sp) (free : X.A.guards = some []) (hr : Room k X.A)
    (hg : Gl X x) (hm : X.mg x = some (.ref f)) (hk : PySem.W.keepIn X.K (.ref f) = true)
    (hb : Binds X.K fd ps ds) (hd : Vals dvs ds) (hx : Passes CX X E) (ha : PA X (e :: es) t)
    (n1 : (x == ("__debug__" : Str)) = false := by decide)
    (n2 : starEach (e :: es) X.env = (false, eval e X.env) :: starEach es X.env := by rfl)
    (n3 : (backTo pos (starEach es X.env)).any (·.1) = false := by rfl) :
    PE X (.Call (.Name x p) (e :: es) [] pos) (tCall sp dvs E t) :=
  ⟨fun pins s σ H Q I h => wpAny_Call_Name_kw (ld_glob I hg hm
    (PySem.W.callWith_K (h₀ := X.base) I.ok.mod.kin hk
      (thn (ha.run pos pins s σ H _ I h) fun us s1 ⟨vs, H1, I1, r, q⟩ =>
        ⟨I1.kIn, goes F free hr hb hd hx I1 r q⟩) n2 n3) n1)⟩
end
/-- a def's body, where nothing is under repr -/
theorem fnG_of {CX : CXT} {P : Program} {w : World} {K : PySem.W.Frag} {mg : Str → Option Value} {base : Heap} {k : Nat}
    {f : Addr} {name qual : Str} {params : Arguments} {body : List Stmt} {scope : Scope} {dV kV doc pm cdv ct oc : Value}
    {an od : Option Addr} {osl : Array (Option Value)} {N ps : List Str} {sp : Sp}
    (lk : K.lookup f = some ⟨oc, od, .func (PySem.W.fnOf name qual params body scope dV kV doc pm an cdv ct), osl⟩)
    (coded : PySem.W.codeIn K cdv qual = true) (S : FnScope N ps scope)
    (len : ∀ zs G R W, sp zs G R W → zs.length = ps.length)
    (inner : ∀ (B : Around) (around : List Env) (t : Shared) (G : Hp) (zs : List V) (R : VK) (W : XK), B.guards = some [] →
      Room k (B.deeper (envOfC qual scope t.heap.objs.size f cdv)) → sp zs G R W →
      ∃ tb, PSs (cxOf CX P w K mg base N qual scope f cdv B around t G W) body tb ∧
        tb { nx := fun _ G' => R .non G', rt := R } (start N zs) G) :
    FnG P w K mg base CX (k + 1) f (PySem.W.fnOf name qual params body scope dV kV doc pm an cdv ct) ps sp := by
  refine ⟨len, fun B around t G given bound zs R W free room e0 bd rel asked => ?_⟩
  have many := len _ _ _ _ asked
  have KX : K.In t.heap := e0.mod.kin.keeps fun b o z => (e0.bs b o z).1
  have lim : t.heap.NoLimit := e0.mod.nolimit.keeps fun b o z => (e0.bs b o z).1
  have kinds : ∀ y ∈ ps.zip bound, scope.names.lookup y.1 = some .local ∨
      (scope.names.lookup y.1 = some .cell ∧ ((cellsFrom (t.heap.objs.size + 1) scope.names []).lookup y.1).isSome = true) := by
    intro y hy
    cases S.par y.1 (List.of_mem_zip hy).1 with
    | inl q => exact .inl q
    | inr q => exact .inr ⟨q, PySem.W.cellsFrom_some _ _ _ (.inl q)⟩
  refine codeAny_call_function room.depth (KX _ _ lk) rfl S.co S.gen rfl (PySem.W.codeRec_of KX coded) (bd _ _ _ _ ?_)
  refine wpAny_newFunctionEnv_cells S.kind kinds fun env same t1 made => ?_
  subst same
  refine ⟨lim.keeps made.toInCall.keep, codeAny_func ?_⟩
  obtain ⟨tb, derived, holds⟩ := inner B around t G zs R W free (room.deeper _) asked
  have J : Inv (cxOf CX P w K mg base N qual scope f cdv B around t G W) [] (start N zs) G t1 :=
    inv_start S room.hd e0 many rel made
  refine wpAny_mono (derived.run [] t1 (start N zs) G _ J holds) (fun fl t' told => ?_) fun e t' told => told
  match fl, told with
  | .ret u, ⟨v, σ', G', J', rv, q⟩ => exact ⟨v, G', J'.os, J'.bare, J'.base, J'.hok, rv, q⟩
  | .next, ⟨σ', G', J', q⟩ => exact ⟨V.non, G', J'.os, J'.bare, J'.base, J'.hok, (rfl : Value.none = Value.none), q⟩
  | .brk, ⟨_, _, _, q⟩ => exact q.elim
  | .cont, ⟨_, _, _, q⟩ => exact q.elim
theorem okG {P : Program} {w : World} {K : PySem.W.Frag} {mg : Str → Option Value} {base : Heap} {x qual : Str} {st : Stmt}
    {f : Addr} {fd : FuncData} {N ps : List Str} {k : Nat} {sp : Sp} (F : Fun K x qual st f fd) (S : FnScope N ps (defScope st))
    (len : ∀ zs G R W, sp zs G R W → zs.length = ps.length)
    (inner : ∀ (cdv : Value) (B : Around) (around : List Env) (t : Shared) (G : Hp) (zs : List V) (R : VK) (W : XK), B.guards = some [] →
      Room k (B.deeper (envOfC qual (defScope st) t.heap.objs.size f cdv)) → sp zs G R W →
      ∃ tb, PSs (cxOf CX0 P w K mg base N qual (defScope st) f cdv B around t G W).nox (defBody st) tb ∧
        tb { nx := fun _ G' => R .non G', rt := R } (start N zs) G) :
    FnG P w K mg base CX0 (k + 1) f fd ps sp := by
  obtain ⟨oc, od, kV, doc, pm, an, cdv, ct, osl, rfl, lk, coded⟩ := F.ex
  refine fnG_of lk coded S len fun B around t G zs R W free room asked => ?_
  obtain ⟨tb, derived, holds⟩ := inner cdv B around t G zs R W free room asked
  exact ⟨tb, derived.nox, holds⟩
/-- the law's own call -/
theorem law_callG {P : Program} {w : World} {K : PySem.W.Frag} {mg mb : Str → Option Value} {CX : CXT} {k : Nat} {fa a : Addr}
    {fd : FuncData} {x : Str} {sp : Sp} {s₁ : Shared} {vs : List Value} {ns : List Int}
    (KX : K.In s₁.heap) (gl : s₁.heap.Ns mainGlobals mg) (bl : s₁.heap.Ns builtinsNs mb)
    (boot : ∀ x : Str, x ≠ "__name__" → mb x = bootBuiltins x) (lim : s₁.heap.NoLimit) (nogens : s₁.gens = #[])
    (at_ : s₁.heap.get? a = some { cls := .type "list", data := .seq vs.toArray }) (nums : IntsAre vs ns) (short : ns.length ≤ sizeLine)
    (room : Room k callerA)
    (F : ∀ base : Heap, K.In base → base.Ns mainGlobals mg → FnG P w K mg base CX k fa fd [x] sp)
    (bound : ∀ (s : Shared) (u : Value), BindsTo s fd ⟨[u], []⟩ [(x, u)])
    (asked : ∀ H : Hp, Only H → SqL K H a (ns.map V.int) → sp [.ref a] H (fun v _ => v = .bl true) fun _ _ _ => False)
    (never : ∀ H e s', CX [] H s₁ (fun _ _ _ => False) e s' → False) :
    codeAny (model P w) callerA (.call (.ref fa) ⟨[.ref a], []⟩)
      (fun r s' => r = .ok (.ret (.bool true)) ∧ OldK s₁.heap s'.heap ∧ s'.os = s₁.os ∧ AllBare s'.gens) s₁ := by
  have rel := vals_ints nums
  have many := nums.length
  have from_ : ∀ H : Hp, Only H → SqL K H a (ns.map V.int) → HOk P w H s₁.heap → (∀ b, H b ≠ none → b = a) →
      (H a ≠ none → K.lookup a = none) → codeAny (model P w) callerA (.call (.ref fa) ⟨[.ref a], []⟩)
        (fun r s' => r = .ok (.ret (.bool true)) ∧ OldK s₁.heap s'.heap ∧ s'.os = s₁.os ∧ AllBare s'.gens) s₁ := by
    intro H only seq fine one away
    have down : ∀ {b : Addr} {o : Obj}, s₁.heap.get? b = some o → H b = none →
      (hidT s₁.heap H).get? b = some o := fun e n => hidT_get e n
    have untracked : ∀ {b : Addr} {o : Obj}, s₁.heap.get? b = some o → (b = a → False) → H b = none := by
      intro b o _ n
      by_cases q : H b = none
      · exact q
      · exact (n (one b q)).elim
    have nodict : ∀ {b : Addr} {o : Obj} {es : Array DictEntry} {ep : Nat},
        s₁.heap.get? b = some o → o.data = .dict es ep → H b = none := by
      intro b o es ep e d
      refine untracked e fun q => ?_
      rw [q, at_] at e
      have e' := Option.some.inj e
      rw [← e'] at d
      have d' : Data.seq vs.toArray _ = Data.dict es ep := d
      exact absurd d' (fun h => by cases h)
    have spaces : ∀ {b : Addr} {m : Str → Option Value}, s₁.heap.Ns b m → (hidT s₁.heap H).Ns b m := by
      intro b m ns
      obtain ⟨o, es, ep, e, d, r⟩ := ns
      exact ⟨o, es, ep, down e (nodict e d), d, r⟩
    have written : K.In (hidT s₁.heap H) := by
      intro b o e
      refine down (KX b o e) ?_
      by_cases q : H b = none
      · exact q
      · have same := one b q
        rw [same] at q e
        rw [away q] at e
        cases e
    have md : Mod K mg (hidT s₁.heap H) := by
      obtain ⟨mc, h1, h2⟩ := lim
      exact ⟨written, spaces gl, ⟨mb, spaces bl, boot⟩, ⟨mc, spaces h1, h2⟩⟩
    have e0 : Env0 P w K mg (hidT s₁.heap H) callerA [] s₁ H :=
      ⟨rfl, md, fun b o e => of_hidT e, Nat.le_of_eq (hidT_size _ _), trivial,
        fun b hb => (List.not_mem_nil (show b ∈ ([] : List Addr) from hb)).elim, fine, .of_eq nogens⟩
    have it := (F _ written (spaces gl)).runs callerA [] s₁ H ⟨[.ref a], []⟩ [.ref a] [.ref a] _ _ rfl room e0
      (bound s₁ (.ref a)) (.cons rfl .nil) (asked H only seq)
    refine codeAny_mono it fun out s' told => ?_
    match out, told with
    | .error e, told => exact (never H e s' told).elim
    | .ok .next, told => exact told.elim
    | .ok .brk, told => exact told.elim
    | .ok .cont, told => exact told.elim
    | .ok (.ret u), ⟨v, H', os, bare, un, fine', r', q⟩ =>
      have q' : v = .bl true := q
      subst q'
      have u' : u = Value.bool true := r'
      subst u'
      refine ⟨rfl, OldK.of_keep fun b o e => ?_, os, bare⟩
      cases q : H b with
      | none => exact un.keep b o e q (fun z => (List.not_mem_nil (show b ∈ ([] : List Addr) from z)).elim) (List.not_mem_nil)
      | some u =>
        rcases only b with z | ⟨ob, xs, z⟩
        · have z1 := q.symm.trans z
          cases z1
        · have z' := un.frzs b ob _ z
          have e1 := (fine b _ z).1
          have e2 := (fine' b _ z').1
          exact e2.trans (e1.symm.trans e)
  cases known : K.lookup a with
  | some o =>
    have e := (KX a o known).symm.trans at_
    have e' := Option.some.inj e
    subst e'
    refine from_ (fun _ => none) (fun _ => .inl rfl) (.inr ⟨_, vs.toArray, _, known, rfl, rfl, rfl, ?_, ?_⟩)
      (fun b u z => by have z1 : (none : Option HO) = some u := z; cases z1) (fun b z => (z rfl).elim) fun z => (z rfl).elim
    · rw [List.size_toArray, many]; exact short
    · simpa using rel
  | none =>
    have self : (fun b => if b = a then some (HO.frz { cls := .type "list", data := .seq vs.toArray } (.lst (ns.map V.int))) else none) a
        = some (HO.frz { cls := .type "list", data := .seq vs.toArray } (.lst (ns.map V.int))) := if_pos rfl
    refine from_ (fun b => if b = a then some (HO.frz { cls := .type "list", data := .seq vs.toArray } (.lst (ns.map V.int))) else none)
      (fun b => ?_) (.inl (.inr ⟨_, self⟩)) (fun b u z => ?_) (fun b z => ?_) fun _ => known
    · by_cases same : b = a
      · exact .inr ⟨_, _, if_pos same⟩
      · exact .inl (if_neg same)
    · by_cases same : b = a
      · subst same
        have z' := Option.some.inj ((if_pos rfl).symm.trans z)
        subst z'
        exact ⟨at_, by rw [List.length_map]; exact short, vs, _, rel, at_⟩
      · have z1 := (if_neg same).symm.trans z
        cases z1
    · by_cases same : b = a
      · exact same
      · exact (z (if_neg same)).elim
theorem walk_ofG {l : PySem.W.OpenLaw} {n k : Nat} {q : Program} {loose : List Str} {XP : (Str → Option Value) → Heap → Prop}
    {YP : World → Heap → Prop} {d : DefRec} {K : Params → PySem.W.Frag} {sp : PySem.W.Frag → Sp} {x : Str}
    (hn : l.most = some n) (hn2 : n ≤ sizeLine) (hdf : d.params.defaults = []) (room : Room k callerA)
    (hY : ∀ (w : World) (h : Heap), YP w h → (K w.params).In h)
    (F : ∀ (w : World) (mg : Str → Option Value) (fa : Addr) (h : Heap), (K w.params).In h → h.Ns mainGlobals mg →
      mg d.name = some (.ref fa) → ∃ fd : FuncData, (∀ (s : Shared) (u : Value), BindsTo s fd ⟨[u], []⟩ [(x, u)]) ∧
        ∀ base : Heap, (K w.params).In base → base.Ns mainGlobals mg →
          FnG l.prog w (K w.params) mg base CX0 k fa fd [x] (sp (K w.params)))
    (asked : ∀ (K : PySem.W.Frag) (H : Hp) (a : Addr) (ns : List Int), ns.length ≤ n → Only H → SqL K H a (ns.map V.int) →
      sp K [.ref a] H (fun v _ => v = .bl true) fun _ _ _ => False) :
    PySem.W.WalkO q loose XP YP l.row.toRowW d [] (fun f vs => PySem.call f vs) := by
  refine Att.attach_call hn hdf fun w s₀ s₁ mg mb fa o pm cd doc a vs ns G Y ho hd hcd named obj nums few nogens => ?_
  have KX := hY w _ Y
  obtain ⟨fd, bound, all⟩ := F w mg fa _ KX G.T.g named
  exact law_callG KX G.T.g G.T.b G.T.builtins G.T.nolimit nogens obj nums (Nat.le_trans few hn2) room all bound
    (fun H only seq => asked _ H a ns few only seq) fun H e s' z => z
end G0
namespace G0
open PySem PySem.Spec PyProof.Rows L2
/-! ### a def of the module's top, by its name (no word of guards: for laws without repr) -/
def Fn (K : PySem.W.Frag) (mg : Str → Option Value) (x : Str) (st : Stmt) : Prop :=
  ∃ f fd, Fun K x x st f fd ∧ mg x = some (.ref f)
def Cal (P : Program) (w : World) (K : PySem.W.Frag) (mg : Str → Option Value) (base : Heap) (x : Str) (k : Nat) (ps : List Str) (sp : Sp) : Prop :=
  ∃ f fd, FnOk P w K mg base CX0 k f fd ps sp ∧ Binds K fd ps [] ∧ mg x = some (.ref f) ∧ PySem.W.keepIn K (.ref f) = true ∧
    ∃ oc od osl, K.lookup f = some ⟨oc, od, .func fd, osl⟩
theorem fn_top {K : PySem.W.Frag} {h : Heap} {mg : Str → Option Value} {x : Str} {st : Stmt} {f : Addr} {oc : Value} {od an : Option Addr}
    {osl : Array (Option Value)} {kV doc pm cdv ct : Value} (X : K.In h) (G : h.Ns mainGlobals mg)
    (a : PySem.W.nsIn K mainGlobals x = some (some (.ref f)))
    (l : K.lookup f = some ⟨oc, od, .func (PySem.W.fnOf x x (defArgs st) (defBody st) (defScope st) .none kV doc pm an cdv ct), osl⟩)
    (c : PySem.W.codeIn K cdv x = true) (k : PySem.W.keepIn K (.ref f) = true) : Fn K mg x st :=
  ⟨f, _, fun_mk l c k, PySem.W.mg_of X G a⟩
/-- a method of the class at C -/
def Fm (K : PySem.W.Frag) (C : Addr) (x qual : Str) (st : Stmt) : Prop := ∃ f fd, Fun K x qual st f fd ∧ Meth K C x f
theorem fm_top {K : PySem.W.Frag} {C : Addr} {x qual : Str} {st : Stmt} {f : Addr} {oc : Value} {od an : Option Addr}
    {osl : Array (Option Value)} {kV doc pm cdv ct : Value}
    (a : PySem.W.findIn K (.ref C) x = some (some (.ref f))) (i : PySem.W.isFn K (.ref f) = true)
    (l : K.lookup f = some ⟨oc, od, .func (PySem.W.fnOf x qual (defArgs st) (defBody st) (defScope st) .none kV doc pm an cdv ct), osl⟩)
    (c : PySem.W.codeIn K cdv qual = true) (k : PySem.W.keepIn K (.ref f) = true) : Fm K C x qual st :=
  ⟨f, _, fun_mk l c k, ⟨a, i, k⟩⟩
section
variable {P : Program} {w : World} {K : PySem.W.Frag} {mg : Str → Option Value} {base : Heap}
theorem cal_of {x : Str} {st : Stmt} {N ps : List Str} {k : Nat} {sp : Sp} (F : Fn K mg x st) (S : FnScope N ps (defScope st))
    (bd : ∀ (kV doc pm : Value) (an : Option Addr) (cdv ct : Value) (us : List Value), us.length = ps.length →
      bindArgs (PySem.W.fnOf x x (defArgs st) (defBody st) (defScope st) .none kV doc pm an cdv ct) ⟨us, []⟩ = pure (ps.zip us))
    (len : ∀ zs G R W, sp zs G R W → zs.length = ps.length)
    (inner : ∀ (f : Addr) (cdv : Value) (B : Around) (around : List Env) (t : Shared) (G : Hp) (zs : List V) (R : VK) (W : XK), True →
      Room k (B.deeper (envOfC x (defScope st) t.heap.objs.size f cdv)) → sp zs G R W →
      ∃ tb, PSs (cxOf CX0 P w K mg base N x (defScope st) f cdv B around t G W).nox (defBody st) tb ∧
        tb { nx := fun _ G' => R .non G', rt := R } (start N zs) G) :
    Cal P w K mg base x (k + 1) ps sp := by
  obtain ⟨f, fd, F, m⟩ := F
  obtain ⟨oc, od, kV, doc, pm, an, cdv, ct, osl, e, lk, c⟩ := id F.ex
  exact ⟨f, fd, F.ok S len (fun cdv B around t G zs R W room h => inner f cdv B around t G zs R W True.intro room h), F.binds bd, m, F.kp, oc, od, osl, lk⟩
theorem Cal.mono {x : Str} {j k : Nat} {ps : List Str} {sp : Sp} (C : Cal P w K mg base x j ps sp) (h : j ≤ k) : Cal P w K mg base x k ps sp := by
  obtain ⟨f, fd, F, r⟩ := C
  exact ⟨f, fd, F.mono h, r⟩
/-- the law itself, at the end -/
theorem law_end {st : Stmt} {k : Nat} {sp : Sp} {fa : Addr} (F : Fn K mg "law" st) (hm : mg "law" = some (.ref fa))
    (bt : ∀ (kV doc pm : Value) (an : Option Addr) (cdv ct : Value) (s : Shared) (v : Value),
      BindsTo s (PySem.W.fnOf "law" "law" (defArgs st) (defBody st) (defScope st) .none kV doc pm an cdv ct) ⟨[v], []⟩ [("script", v)])
    (C : ∀ base : Heap, K.In base → base.Ns mainGlobals mg → Cal P w K mg base "law" k ["script"] sp) :
    ∃ fd : FuncData, (∀ (s : Shared) (v : Value), BindsTo s fd ⟨[v], []⟩ [("script", v)]) ∧
      ∀ base : Heap, K.In base → base.Ns mainGlobals mg → FnG P w K mg base CX0 k fa fd ["script"] sp := by
  obtain ⟨f, fd, F, m⟩ := F
  obtain ⟨oc, od, kV, doc, pm, an, cdv, ct, osl, e, lk, c⟩ := id F.ex
  have ef := m.symm.trans hm
  cases ef
  refine ⟨fd, fun s v => by rw [e]; exact bt _ _ _ _ _ _ s v, fun base kin ns => ?_⟩
  obtain ⟨f', fd', G, _, m', _, oc', od', osl', lk'⟩ := C base kin ns
  have ef := m.symm.trans m'
  cases ef
  have ed := lk.symm.trans lk'
  cases ed
  exact FnG.of G
end
section
variable {X : Cx} {k : Nat} {ps : List Str} {sp : Sp} {x : Str} {p pos : Pos} {e : Expr} {es : List Expr} {t : TA}
theorem pe_cal (C : Cal X.prog X.w X.K X.mg X.base x k ps sp) (free : True) (hr : Room k X.A)
    (ha : PA X (e :: es) t) (hg : Gl X x := by rfl) (n1 : (x == ("__debug__" : Str)) = false := by decide)
    (n2 : starEach (e :: es) X.env = (false, eval e X.env) :: starEach es X.env := by rfl)
    (n3 : (backTo pos (starEach es X.env)).any (·.1) = false := by rfl) (hx : Passes CX0 X E0 := by exact pass0) :
    PE X (.Call (.Name x p) (e :: es) [] pos) (tCall sp [] E0 t) := by
  obtain ⟨f, fd, F, b, m, kp, _⟩ := C
  exact pe_call F hr hg m kp b .nil hx ha n1 n2 n3
/-! ### repr of data -/
def rRep (K : PySem.W.Frag) : List V → Hp → VK → Prop := fun xs H Q => ∃ (x : V) (d : PyData), xs = [x] ∧ Dp K H x d ∧
  d.showable = true ∧ d.hasDict = false ∧ d.depth ≤ 64 ∧ d.shown.length ≤ sizeLine ∧ Q (.str d.shown) H
theorem call_rep (free : X.A.guards = some []) (hu : X.A.units + 66 < cLine) : CallR X (.builtin "repr") (rRep X.K) := by
  intro pins s σ H xs us Q I r h
  obtain ⟨x, d, rfl, hd, hs, hn, h64, hz, q⟩ := h
  obtain ⟨u, rfl, rx⟩ := vals1 r
  have viaRef : ∀ (a : Addr), x = .ref a → wpAny (model X.prog X.w) X.A (call (.builtin "repr") [u]) (EP X pins σ Q) X.xe s := by
    intro a e
    subst e
    obtain rfl : u = Value.ref a := rx
    obtain ⟨as, rd⟩ := Dp.reads I d _ _ hd (rfl : RelV (.ref a) (.ref a))
    exact repr_of_reads' rd hs (PyData.noDict_hsm hn) free (by omega) (fun _ _ e => e)
      (fun h' w t kp => ⟨.str d.shown, H, I.kept (t' := t) kp, ⟨_, rfl⟩, q⟩) hz
  cases hd with
  | non =>
    obtain rfl : u = Value.none := rx
    exact PySem.P.repr_of_none ⟨.str _, H, I.tok _, ⟨_, rfl⟩, by simpa only [PyData.shown] using q⟩
  | bl b =>
    obtain rfl : u = Value.bool b := rx
    exact PySem.P.repr_of_bool ⟨.str _, H, I.tok _, ⟨_, rfl⟩, by simpa only [PyData.shown] using q⟩
  | int i =>
    obtain ⟨t, rfl⟩ := rx
    exact PySem.P.repr_of_int (by simpa [PyData.showable] using hs) ⟨.str _, H, I.tok _, ⟨_, rfl⟩, by simpa only [PyData.shown] using q⟩
  | str z =>
    obtain ⟨t, rfl⟩ := rx
    exact PySem.P.repr_of_str ⟨.str _, H, I.tok _, ⟨_, rfl⟩, by simpa only [PyData.shown] using q⟩ (by simpa only [PyData.shown] using hz)
  | lst _ _ => exact viaRef _ rfl
  | tup _ _ => exact viaRef _ rfl
/-! ### operators of several kinds in one -/
theorem u_eq (hu : X.A.units + 64 < cLine) : OpR X (compareOp .Eq) (fun x y H Q => rEq x y H Q ∨ rEqD X.K x y H Q) := op_eq.or (op_eqD hu)
theorem u_ne (hu : X.A.units + 64 < cLine) : OpR X (compareOp .NotEq) (fun x y H Q => rNe x y H Q ∨ rNeD X.K x y H Q) := op_ne.or (op_neD hu)
theorem u_in : OpR X (compareOp .In) (fun x y H Q => rIn X.K false x y H Q ∨ rInS x y H Q) := op_in_seq.or op_inS
theorem u_notin : OpR X (compareOp .NotIn) (fun x y H Q => rIn X.K true x y H Q ∨ rNotInS x y H Q) := op_notIn_seq.or op_notInS
end
theorem pe_fldK {X : Cx} {e : Expr} {f : Str} {pos : Pos} {ta : TE} (K : PySem.W.Frag) (ha : PE X e ta) (hK : X.K = K := by rfl)
    (hb : attributeBase e f X.env (eval e X.env) = eval e X.env := by rfl) : PE X (.Attribute e f pos) (tFld K ta f) := by
  subst hK
  exact pe_fld ha hb
/-! ### the written part named, for what stands within a comprehension -/
theorem op_K {X : Cx} {f : Value → Value → Sem Value} (r : PySem.W.Frag → R2) (K : PySem.W.Frag) (ho : OpR X f (r X.K)) (hK : X.K = K) : OpR X f (r K) := hK ▸ ho
theorem ix_K {X : Cx} (r : PySem.W.Frag → R2) (K : PySem.W.Frag) (ho : IxR X (r X.K)) (hK : X.K = K) : IxR X (r K) := hK ▸ ho
theorem call_K {X : Cx} {f : Value} (r : PySem.W.Frag → List V → Hp → VK → Prop) (K : PySem.W.Frag) (ho : CallR X f (r X.K)) (hK : X.K = K) : CallR X f (r K) := hK ▸ ho
section
variable {X : Cx} (K : PySem.W.Frag)
theorem u_inK (hK : X.K = K := by rfl) : OpR X (compareOp .In) (fun x y H Q => rIn K false x y H Q ∨ rInS x y H Q) := op_K (fun K x y H Q => rIn K false x y H Q ∨ rInS x y H Q) K u_in hK
theorem u_notinK (hK : X.K = K := by rfl) : OpR X (compareOp .NotIn) (fun x y H Q => rIn K true x y H Q ∨ rNotInS x y H Q) := op_K (fun K x y H Q => rIn K true x y H Q ∨ rNotInS x y H Q) K u_notin hK
theorem ix_listK (hK : X.K = K := by rfl) : IxR X (rIxL K) := ix_K rIxL K ix_list hK
theorem ix_tupK (hK : X.K = K := by rfl) : IxR X (rIxT K) := ix_K rIxT K ix_tup hK
theorem ix_seqK (hK : X.K = K := by rfl) : IxR X (rIx K) := ix_K rIx K ix_seq hK
theorem call_len_seqK (hK : X.K = K := by rfl) : CallR X (.builtin "len") (fun xs H Q => ∃ p ys, xs = [.ref p] ∧ (SqL K H p ys ∨ SqT K H p ys) ∧ Q (.int ys.length) H) :=
  call_K (fun K xs H Q => ∃ p ys, xs = [.ref p] ∧ (SqL K H p ys ∨ SqT K H p ys) ∧ Q (.int ys.length) H) K call_len_seq hK
end
/-! ### what changes: one list -/
/-- all that is tracked but p stays -/
def Chg (p : Addr) (H H' : Hp) : Prop := ∀ b o, b ≠ p → H b = some o → H' b = some o
theorem Chg.refl (p : Addr) (H : Hp) : Chg p H H := fun _ _ _ e => e
theorem Chg.trans {p : Addr} {H H1 H2 : Hp} (a : Chg p H H1) (b : Chg p H1 H2) : Chg p H H2 := fun c o n e => b c o n (a c o n e)
theorem Chg.self {p : Addr} {H : Hp} {o : HO} : Chg p H (upd H p o) := fun b u n e => by rw [upd_ne n]; exact e
theorem Chg.new {p q : Addr} {H H1 : Hp} {o : HO} (a : Chg p H H1) (n : H1 q = none) : Chg p H (upd H1 q o) := fun b u m e => by
  rw [upd_ne (ne_of_none (a b u m e) n)]; exact a b u m e
theorem Chg.same {p : Addr} {H H1 : Hp} (a : Same H H1) : Chg p H H1 := fun b o _ e => a b o e
theorem same_upd {H : Hp} {q : Addr} {o : HO} (n : H q = none) : Same H (upd H q o) := fun b u e => by
  rw [upd_ne (ne_of_none e n)]; exact e
/-! ### a law's draws: the pot -/
def PotL (n : Nat) (xs : List V) : Prop := ∃ a b c : Int, xs = [.int a, .int b, .int c] ∧ 0 ≤ a ∧ 0 ≤ b ∧ b < 2305843009213693951 ∧ 0 ≤ c ∧ c ≤ n
def PotAt (n : Nat) (H : Hp) (p : Addr) : Prop := ∃ xs, H p = some (.lst xs) ∧ PotL n xs
theorem PotL.mono {n m : Nat} {xs : List V} (h : PotL n xs) (le : n ≤ m) : PotL m xs := by
  obtain ⟨a, b, c, e, h1, h2, h3, h4, h5⟩ := h
  exact ⟨a, b, c, e, h1, h2, h3, h4, by omega⟩
theorem PotAt.mono {n m : Nat} {H : Hp} {p : Addr} (h : PotAt n H p) (le : n ≤ m) : PotAt m H p := by
  obtain ⟨xs, e, h⟩ := h
  exact ⟨xs, e, h.mono le⟩
theorem PotAt.keep {n : Nat} {H H' : Hp} {p : Addr} (h : PotAt n H p) (s : Same H H') : PotAt n H' p := by
  obtain ⟨xs, e, h⟩ := h
  exact ⟨xs, s _ _ e, h⟩
theorem PotAt.at {n : Nat} {H : Hp} {p : Addr} {xs : List V} (h : PotL n xs) : PotAt n (upd H p (.lst xs)) p := ⟨xs, upd_same, h⟩
end G0
/-! Wide powers, the law's own call with the script's bits told, len of an own object, sorted of a tuple of tuples of ints. -/
namespace G0
open PySem PySem.Spec PyProof.Rows L2
def CPowB (i j : Int) : Prop := 0 ≤ j ∧ (Builtin.Int.intBits i : Int) * j ≤ 2 ^ 27
theorem op_powB {X : Cx} : OpR X (binaryOp .Pow) (rI CPowB fun i j => .int (i ^ j.toNat)) := opI fun _ _ _ _ _ _ _ hc q => pow_int hc.1 hc.2 q
theorem walk_ofGB {l : PySem.W.OpenLaw} {n k : Nat} {q : Program} {loose : List Str} {XP : (Str → Option Value) → Heap → Prop}
    {YP : World → Heap → Prop} {d : DefRec} {K : Params → PySem.W.Frag} {sp : PySem.W.Frag → Sp} {x : Str}
    (hn : l.most = some n) (hn2 : n ≤ sizeLine) (hdf : d.params.defaults = []) (room : Room k callerA)
    (hY : ∀ (w : World) (h : Heap), YP w h → (K w.params).In h)
    (F : ∀ (w : World) (mg : Str → Option Value) (fa : Addr) (h : Heap), (K w.params).In h → h.Ns mainGlobals mg →
      mg d.name = some (.ref fa) → ∃ fd : FuncData, (∀ (s : Shared) (u : Value), BindsTo s fd ⟨[u], []⟩ [(x, u)]) ∧
        ∀ base : Heap, (K w.params).In base → base.Ns mainGlobals mg →
          FnG l.prog w (K w.params) mg base CX0 k fa fd [x] (sp (K w.params)))
    (asked : ∀ (K : PySem.W.Frag) (H : Hp) (a : Addr) (ns : List Int), ns.length ≤ n → (∀ z ∈ ns, Builtin.Int.intBits z ≤ 1048576) → Only H → SqL K H a (ns.map V.int) →
      sp K [.ref a] H (fun v _ => v = .bl true) fun _ _ _ => False) :
    PySem.W.WalkO q loose XP YP l.row.toRowW d [] (fun f vs => PySem.call f vs) := by
  refine Att.attach_callB hn hdf fun w s₀ s₁ mg mb fa o pm cd doc a vs ns G Y ho hd hcd named obj nums few bits nogens => ?_
  have KX := hY w _ Y
  obtain ⟨fd, bound, all⟩ := F w mg fa _ KX G.T.g named
  exact law_callG KX G.T.g G.T.b G.T.builtins G.T.nolimit nogens obj nums (Nat.le_trans few hn2) room all bound
    (fun H only seq => asked _ H a ns few bits only seq) fun H e s' z => z
/-! ### len of an own object -/
section
variable {X : Cx} {CX : CXT} {k : Nat} {f C : Addr} {fd : FuncData} {ps : List Str} {sp : Sp} {dvs : List V} {ds : List Value} {E : XK}
theorem run_fn1 {pins : List (Addr × Obj)} {σ : L2.St} {H : Hp} {s : Shared} {Q : VK} {us : List Value} {vs : List V}
    (F : FnOk X.prog X.w X.K X.mg X.base CX k f fd ps sp) (hr : Room (k + 1) X.A) (hb : Binds X.K fd ps ds) (hd : Vals dvs ds) (hx : Passes CX X E)
    (I : Inv X pins σ H s) (r : Vals vs us) (h : sp (vs ++ dvs) H Q E) : wpAny (model X.prog X.w) X.A.in1 (call (.ref f) us) (EP X pins σ Q) X.xe s := by
  have r2 : Vals (vs ++ dvs) (us ++ ds) := r.append hd
  have hl : (us ++ ds).length = ps.length := by rw [← r2.length]; exact F.len _ _ _ _ h
  refine wpAny_call (codeAny_mono (F.run X.A.in1 X.stack s H ⟨us, []⟩ (us ++ ds) (vs ++ dvs) Q E hr.in1 I.env0.in1 (hb s us I.kIn hl) r2 h) fun r s' hq => ?_)
  cases r with
  | error e => exact hx pins σ H s e s' I hq
  | ok fl =>
    cases fl with
    | ret u => exact I.after hq
    | next => exact False.elim hq
    | brk => exact False.elim hq
    | cont => exact False.elim hq
def rLenOwn (C : Addr) (sp : Sp) (E : XK) : List V → Hp → VK → Prop := fun xs H Q => ∃ (a dx : Addr) (fs : List (Str × V)), xs = [.ref a] ∧ H a = some (.ins C dx fs) ∧
  sp [.ref a] H (fun v H2 => ∃ n : Nat, v = .int n ∧ n ≤ sizeLine ∧ Q (.int n) H2) E
theorem call_lenOwn (hm : Meth X.K C "__len__" f) (F : FnOk X.prog X.w X.K X.mg X.base CX k f fd ps sp) (hr : Room (k + 1) X.A) (hb : Binds X.K fd ps []) (hx : Passes CX X E) :
    CallR X (.builtin "len") (rLenOwn C sp E) := by
  intro pins s σ H xs us Q I r h
  obtain ⟨a, dx, fs, rfl, e, q⟩ := h
  obtain ⟨u, rfl, ru⟩ := vals1 r
  obtain rfl : u = Value.ref a := ru
  obtain ⟨mA, O, _, _, _, _⟩ := ins_get I.hok e
  obtain ⟨od, ho, _⟩ := lookIn_ns O.ns
  have IA : PySem.W.InstAt s.heap a (PySem.W.instObj C dx) C (some od) := ⟨O.obj, rfl, rfl, ho⟩
  refine Calls.call_function_entry kind_len plain_len entry_len (args_len1 _) ?_
  unfold Builtin.«len»
  refine wpAny_bind (m := oneArg "len" _) (wpAny_pure ?_)
  refine wpAny_bind (m := callSpecial? (.ref a) (Str.ofString "__len__")) (PySem.W.special_fn I.kIn IA hm.at_ (beq_iff_eq.mp hm.fn)
    (wpAny_mono (run_fn1 (us := [.ref a]) (vs := [.ref a]) F hr hb .nil hx I (.cons rfl .nil) q) (fun r s' hr' => ?_) fun _ _ y => y))
  obtain ⟨v, H', I', rv, n, rfl, hn, q'⟩ := hr'
  obtain ⟨t, rfl⟩ := (show ∃ t, r = Value.int n t from rv)
  rw [sizeLine_eq] at hn
  refine wpAny_bind (wpAny_holding (wpAny_pure ?_))
  refine wpAny_bind (wpAny_letGo ?_)
  show wpAny _ _ (if ((n : Nat) : Int) < 0 then _ else _) _ _ _
  rw [if_neg (by omega)]
  show wpAny _ _ (if ((n : Nat) : Int) ≥ 2 ^ 63 then _ else _) _ _ _
  rw [if_neg (by omega)]
  exact wpAny_bind (wpAny_mkInt (wpAny_pure ⟨_, rfl, .int n, H', I'.tok _, ⟨_, rfl⟩, q'⟩))
end
/-! ### sorted of a tuple of tuples of ints -/
section
variable {prog : Program} {w : World} {A : Around} {E : Value → Shared → Prop} {s : Shared}
theorem collect_tup {l : Addr} {vs : List Value} {Q : List Value → Shared → Prop} (hl : IsTup s.heap l vs.toArray)
    (h : Q vs { s with heap := (s.heap.push (seqObj "list" #[] 0)).update s.heap.objs.size (Obj.mapSeq (· ++ vs.toArray)) }) (hsz : vs.length ≤ sizeLine) :
    wpAny (model prog w) A (collect (.ref l)) Q E s := by
  obtain ⟨o, ho, hc, n, hd⟩ := id hl
  unfold collect
  refine wpAny_bind (wpAny_runValue (codeAny_builtin entry_proto_collect' ?_))
  show wpAny _ _ (do again (.builtin "list.__iadd__" ⟨[← newList [], .ref l], []⟩)) _ _ s
  refine wpAny_bind (wpAny_newList (wpAny_pure ⟨Code.quiet_builtin _ (by decide +kernel), codeAny_builtin entry_list_iadd' ?_⟩))
  show wpAny _ _ (Builtin.List.listExtendWith (.ref s.heap.objs.size) (.ref l) (.ref s.heap.objs.size)) _ _ { s with heap := s.heap.push (seqObj "list" #[] 0) }
  unfold Builtin.List.listExtendWith
  have ho' : (s.heap.push (seqObj "list" #[] 0)).get? l = some o := Heap.get?_push_of_some _ ho
  refine wpAny_bind (wpAny_typeOf (T := "tuple") ⟨o, ho', hc⟩ ?_)
  have ht : (Value.type "tuple" == Value.type "tuple") = true := by rfl
  rw [if_pos (by rw [ht]; simp)]
  refine wpAny_bind (listItems_at ho' hd ?_)
  refine wpAny_bind (listItems_at (xs := #[]) (n := 0) (Heap.get?_push_size _ rfl) rfl ?_)
  rw [if_neg (by simp)]
  refine wpAny_bind (listUpdate_at (xs := #[]) (n := 0) (Heap.get?_push_size _ rfl) rfl ?_ (Nat.zero_le _) (by show (#[] ++ vs.toArray).size ≤ sizeLine + 1; simp only [Array.size_append, List.size_toArray, List.length_nil]; omega))
  refine wpAny_pure ?_
  show wpAny (model prog w) A (do
      let o ← load s.heap.objs.size
      match o.data with
      | .seq xs _ => pure xs.toList
      | _ => unsupported "internal:collect") Q E { s with heap := (s.heap.push (seqObj "list" #[] 0)).update s.heap.objs.size (Obj.mapSeq (· ++ vs.toArray)) }
  refine wpAny_bind (wpAny_load (get?_update_seq (Heap.get?_push_size _ rfl) _) ?_)
  show wpAny _ _ (pure ((#[] : Array Value) ++ vs.toArray).toList) Q E _
  rw [show ((#[] : Array Value) ++ vs.toArray).toList = vs by simp]
  exact wpAny_pure h
open TS in
theorem sorted_tupsT {l : Addr} {vs : List Value} {d : Nat} {B : Int} {Q : Value → Shared → Prop} (hl : IsTup s.heap l vs.toArray) (h64 : vs.length < 64) (hd : 1 ≤ d) (x : TupsOk s.heap d B vs)
    (h : ∀ out : Array Value, out.toList.Perm vs → out.toList.Pairwise (fun u v => code B (intsOf s.heap u) ≤ code B (intsOf s.heap v)) → Q (.ref (s.heap.objs.size + 1)) { s with heap := sortedAll s.heap vs out }) :
    wpAny (model prog w) A (call (.builtin "sorted") [.ref l]) Q E s := by
  refine Calls.call_function_entry kind_sorted plain_sorted entry_sorted (args_sorted1 _) ?_
  unfold Builtin.«sorted»
  refine wpAny_bind (m := checkCount "sorted" 1 1 _) (wpAny_pure ?_)
  refine wpAny_bind (collect_tup hl ?_ (by rw [sizeLine_eq]; omega))
  refine wpAny_bind (wpAny_newList ?_ (by rw [sizeLine_eq]; omega))
  have hsz : ((s.heap.push (seqObj "list" #[] 0)).update s.heap.objs.size (Obj.mapSeq (· ++ vs.toArray))).objs.size = s.heap.objs.size + 1 := by
    rw [Heap.size_update, size_push']
  have hoL : (((s.heap.push (seqObj "list" #[] 0)).update s.heap.objs.size (Obj.mapSeq (· ++ vs.toArray))).push (seqObj "list" vs.toArray 0)).get? (s.heap.objs.size + 1) = some (seqObj "list" vs.toArray 0) := by
    rw [← hsz]; exact Heap.get?_push_size _ rfl
  have keep : ∀ b o, s.heap.get? b = some o → o.cls = .type "tuple" → (((s.heap.push (seqObj "list" #[] 0)).update s.heap.objs.size (Obj.mapSeq (· ++ vs.toArray))).push (seqObj "list" vs.toArray 0)).get? b = some o := fun b o q _ => by
    have hlt : b < s.heap.objs.size := Heap.lt_size q
    rw [Heap.get?_push_ne _ _ _ (by rw [hsz]; exact Nat.ne_of_lt (Nat.lt_succ_of_lt hlt)), Heap.get?_update_ne _ _ _ _ (Nat.ne_of_lt hlt), Heap.get?_push_ne _ _ _ (Nat.ne_of_lt hlt)]
    exact q
  show wpAny _ _ _ _ _ { s with heap := ((s.heap.push (seqObj "list" #[] 0)).update s.heap.objs.size (Obj.mapSeq (· ++ vs.toArray))).push (seqObj "list" vs.toArray 0) }
  rw [hsz]
  refine wpAny_bind (wpAny_holding (wpAny_call_entry slot_list_sort ⟨_, hoL, rfl⟩ entry_list_sort (sort_tups hoL h64 hd (x.keeps keep) (fun v => code B (intsOf s.heap v)) (fun v hv ns t => ?_) fun out a1 a2 => ⟨_, rfl, ?_⟩) (args_list_sort _)))
  · obtain ⟨ns0, t0, _⟩ := x v hv
    have e : ns = ns0 := t.ints.symm.trans (t0.keeps keep).ints
    rw [e]
    show code B (intsOf s.heap v) = code B ns0
    rw [t0.ints]
  · exact wpAny_pure ⟨_, rfl, h out a1 a2⟩
end
def rSortUT (K : PySem.W.Frag) (d : Nat) (B : Int) : List V → Hp → VK → Prop := fun vs H Q => ∃ (a : Addr) (xs : List V), vs = [V.ref a] ∧ SqT K H a xs ∧ xs.length < 64 ∧ (∀ x ∈ xs, ∃ ns, TupI K H x ns ∧ ns.length = d ∧ TS.Bd B ns) ∧
  ∀ (ys : List V) (p : Addr), ys.Perm xs → ys.Pairwise (fun x y => ∀ n m, TupI K H x n → TupI K H y m → TS.code B n ≤ TS.code B m) → H p = none → Q (.ref p) (upd H p (.lst ys))
theorem cr_sortTT {X : Cx} {d : Nat} {B : Int} (hd : 1 ≤ d) : CallR X (.builtin "sorted") (rSortUT X.K d B) := by
  intro pins s σ H vs us Q I r h
  obtain ⟨a, xs, rfl, hs, h64, hx, q⟩ := h
  obtain ⟨its, rv, hl, hz⟩ := I.tuple hs
  rw [Vals.ref1 r]
  obtain ⟨e1, e2⟩ := bkV_refs rv fun x m => by
    obtain ⟨ns, ⟨t, e, _⟩, _⟩ := hx x m
    exact ⟨t, e⟩
  refine sorted_tupsT (d := d) (B := B) hl (by rw [← rv.length]; exact h64) hd (fun v hv => ?_) fun out h1 h2 => ?_
  · obtain ⟨t, rfl⟩ := e2 v hv
    have hm : V.ref t ∈ xs := by
      rw [e1]
      exact List.mem_map.mpr ⟨_, hv, rfl⟩
    obtain ⟨ns, ⟨t', e, ht⟩, hn, hb⟩ := hx _ hm
    cases e
    exact ⟨ns, tupI_raw I ht, hn, hb⟩
  · obtain ⟨ep, he'⟩ := PyProof.Rows.sortedAll_at s.heap its out
    have h3 : ∀ u ∈ out.toList, ∃ a, u = Value.ref a := fun u hu => e2 u (h1.mem_iff.mp hu)
    have hp : (out.toList.map bkV).Perm xs := by
      rw [e1]
      exact h1.map bkV
    have hlen : (out.toList.map bkV).length ≤ sizeLine := by
      rw [hp.length_eq]
      exact hz
    refine ⟨.ref _, upd H (s.heap.objs.size + 1) (.lst (out.toList.map bkV)), I.laid (t' := s.toks) (fun _ _ => PyProof.Rows.sortedAll_old) (Nat.le_succ _) ⟨hlen, out.toList, ep, bkV_vals h3, he'⟩, rfl, q _ _ hp ?_ (I.hok.fresh (Nat.le_succ _))⟩
    rw [List.pairwise_map]
    refine List.Pairwise.imp (fun {u v} huv n m hn hm => ?_) h2
    obtain ⟨t, et, ht⟩ := hn
    obtain ⟨t', et', ht'⟩ := hm
    have eu := bkV_ref et
    have ev := bkV_ref et'
    have i1 : TS.intsOf s.heap u = n := by
      rw [eu]
      exact (tupI_raw I ht).ints
    have i2 : TS.intsOf s.heap v = m := by
      rw [ev]
      exact (tupI_raw I ht').ints
    rw [← i1, ← i2]
    exact huv
end G0
namespace G0
open PySem PySem.Spec PyProof.Rows L2 PpSet
/-! ### set comprehensions, whatever goes into the set: the new set is A.made where it is laid, A.put says when y may go in and what is there behind it -/
structure Into (X : Cx) where
  made : Addr → HO
  put : Addr → V → Hp → (Hp → Prop) → Prop
  laid : ∀ (h : Heap) (H : Hp), ObjOk X.prog X.w H (h.push { cls := .type "set", dict := none, data := .set #[] 0 (.fresh 0 0 (!X.w.params.followText "set-order")) }) h.objs.size (made h.objs.size)
  added : ∀ (s0 : Shared) (H0 : Hp) (sc : Scope) (ce : Env) (fp : List Addr) (pins : List (Addr × Obj)) (σ : L2.St) (H : Hp) (s : Shared) (D : Addr) (y : V) (v : Value) (N : Hp → Prop), Inv (X.blk s0 H0 sc ce fp) pins σ H s → RelV y v → put D y H N →
    ∀ E : Value → Shared → Prop, wpAny (model X.prog X.w) X.A (call (.builtin "set.add") [.ref D, v]) (fun _ s' => ∃ H', Inv (X.blk s0 H0 sc ce fp) pins σ H' s' ∧ N H') E s
section
variable {X : Cx}
def tScG (A : Into X) (wi : TI) (g : TG) (tt : TT) (te : TE) (vs : List Nat) : TE := fun σ H Q => wi σ H fun J H1 => ∀ D, H1 D = none → ∃ W : Nat → Nat → Hp → Prop, (∃ m, W 0 m (upd H1 D (A.made D))) ∧ ∀ i m G, W i m G →
  (J.stop i G ∧ Q (.ref D) G) ∨ (J.go i G ∧ ∃ Nx : Hp → Prop, (∀ G', Nx G' → ∃ m', m' < m ∧ W (i + 1) m' G') ∧ ∀ x G', J.yld i G x G' → g x (wipe σ vs) G' fun σ2 H2 => wipe σ2 vs = wipe σ vs ∧ tt σ2 H2 fun b H3 =>
    if b = true then te σ2 H3 fun y H4 => A.put D y H4 Nx else Nx H3)
theorem scG_core (A : Into X) {pins : List (Addr × Obj)} {s : Shared} {σ : L2.St} {H : Hp} {Q : VK} {elt tg iter : Expr} {ifs : List Expr} {scope : Scope} {own : List (PySem.Str × Nat)} {pos pos' : Pos} {wi : TI} {g : TG} {tt : TT} {te : TE} {use : Option (Value → Sem Unit)} {Qf : Value → Shared → Prop}
    (hc : X.calm = true) (hN : X.N.Nodup) (I : Inv X pins σ H s) (hi : PI X tg iter wi) (ok : BlkOk X.N X.env.scope scope own)
    (hg : ∀ (s : Shared) (H : Hp) (C : Addr) (cl : List (PySem.Str × Addr)) (fp : List Addr), PG (X.blk s H scope (compEnvC scope cl C X.env) fp) tg g) (ht : ∀ (s : Shared) (H : Hp) (C : Addr) (cl : List (PySem.Str × Addr)) (fp : List Addr), PTs (X.blk s H scope (compEnvC scope cl C X.env) fp) ifs tt)
    (he : ∀ (s : Shared) (H : Hp) (C : Addr) (cl : List (PySem.Str × Addr)) (fp : List Addr), PE (X.blk s H scope (compEnvC scope cl C X.env) fp) elt te) (hs : ∀ x, foldedSetIterable iter X.env x = pure x)
    (h : tScG A wi g tt te (own.map (·.2)) σ H Q)
    (hRR : ∀ D C s' m H', Inv X pins σ H' s' → Q (.ref D) H' → s'.heap.Ns C m → FpOk X pins H' C → compPost (model X.prog X.w) X.A X.xe use Qf (.ref D) C (.ok .next) s') :
    wpAny (model X.prog X.w) X.A (comprehension (.SetComp elt [⟨tg, iter, ifs, 0⟩] scope pos) scope X.env pos' (newSet (.type "set")) false (eval iter X.env) use) Qf X.xe s := by
  have hfree : ∀ y ∈ scope.names, y.2 = .free → ∃ c, X.env.cells.lookup y.1 = some c := fun y hy e => by
    rcases ok.free y hy e with k | k
    · exact I.ok.has _ (.inl k)
    · exact I.ok.has _ (.inr k)
  refine wpAny_comprehension_free (use := use) rfl hs (closure_ok hfree) ok.kind (fun y hy e => by rw [ok.uniq y hy, e])
    (thn (hi.run pins s σ H _ I h) fun xv s1 hx => thn hx fun itv s2 h2 => ?_)
  obtain ⟨it, fp, tn, J, H2, e, I2, T, st2, f2, q⟩ := h2
  subst e
  refine newSet_ok (newEnv_comp ?_)
  generalize hD : s2.heap.objs.size = D
  have hDn : H2 D = none := I2.hok.fresh (Nat.le_of_eq hD)
  obtain ⟨W, ⟨m0, w0⟩, turn⟩ := q D hDn
  -- the new list
  generalize hs3 : ({ s2 with heap := s2.heap.push { cls := .type "set", dict := none, data := .set #[] 0 (.fresh 0 0 (!X.w.params.followText "set-order")) } } : Shared) = s3
  have I3 : Inv X pins σ (upd H2 D (A.made D)) s3 := by
    rw [← hs3]
    refine I2.laid (t' := s2.toks) (fun b o e => Heap.get?_push_of_some _ e) (Nat.le_of_eq hD) ?_
    rw [← hD]
    exact A.laid _ _
  have h3 : s3.heap = s2.heap.push { cls := .type "set", dict := none, data := .set #[] 0 (.fresh 0 0 (!X.w.params.followText "set-order")) } := by rw [← hs3]
  have sz : ∀ b ∈ fp, b < s2.heap.objs.size := fun b hb => by
    obtain ⟨o, e, _⟩ := T.obj _ _ st2 b hb
    exact Heap.lt_size e
  have f3 : ∀ b ∈ fp, FpOk X pins (upd H2 D (A.made D)) b ∧ b < s3.heap.objs.size := fun b hb => by
    have hlt := sz b hb
    refine ⟨⟨?_, (f2 b hb).2⟩, by rw [h3, Heap.size_push]; exact Nat.lt_succ_of_lt hlt⟩
    rw [upd_ne (by rw [← hD]; exact Nat.ne_of_lt hlt)]
    exact (f2 b hb).1
  have st3 : tn 0 s3.heap := T.keep _ _ _ st2 fun b _ o e => by rw [h3]; exact Heap.get?_push_of_some _ e
  have I4 := block_start I3 ok hN f3
  have pg := hg s3 (upd H2 D (A.made D)) s3.heap.objs.size (cellsFrom (s3.heap.objs.size + 1) scope.names (cloFrom X.env.cells scope.names [])) fp
  have pt := ht s3 (upd H2 D (A.made D)) s3.heap.objs.size (cellsFrom (s3.heap.objs.size + 1) scope.names (cloFrom X.env.cells scope.names [])) fp
  have pe := he s3 (upd H2 D (A.made D)) s3.heap.objs.size (cellsFrom (s3.heap.objs.size + 1) scope.names (cloFrom X.env.cells scope.names [])) fp
  show codeAny _ _ (.compStart (.SetComp elt [⟨tg, iter, ifs, 0⟩] scope pos) 0 (.ref it) (.ref D) (compEnvC scope (cellsFrom (s3.heap.objs.size + 1) scope.names (cloFrom X.env.cells scope.names [])) s3.heap.objs.size X.env)) (compPost (model X.prog X.w) X.A X.xe use Qf (.ref D) s3.heap.objs.size) { s3 with heap := pushCells (s3.heap.push { cls := .type "dict", data := .dict #[] }) scope.names }
  have nfp : ∀ b ∈ fp, (upd H2 D (A.made D)) b = none := fun b hb => (f3 b hb).1.1
  generalize hce : compEnvC scope (cellsFrom (s3.heap.objs.size + 1) scope.names (cloFrom X.env.cells scope.names [])) s3.heap.objs.size X.env = ce at I4 pg pt pe ⊢
  have cL : ce.locals = s3.heap.objs.size := by subst hce; rfl
  generalize hH3 : upd H2 D (A.made D) = H3 at I3 I4 pg pt pe w0 nfp f3
  generalize hs4 : ({ s3 with heap := pushCells (s3.heap.push { cls := .type "dict", data := .dict #[] }) scope.names } : Shared) = s4 at I4 ⊢
  have st4 : tn 0 s4.heap := T.keep _ _ _ st3 fun b _ o e => by rw [← hs4]; exact pushCells_keeps _ _ _ _ (Heap.get?_push_of_some _ e)
  have stat : ∀ {σ' : L2.St} {H' : Hp} {s' : Shared}, Inv (X.blk s3 H3 scope ce fp) [] σ' H' s' → (∀ b ∈ fp, H' b = none) → ∀ b ∈ fp, FpOk (X.blk s3 H3 scope ce fp) [] H' b := fun {σ' H' s'} I' hn b hb =>
    ⟨hn b hb, (I'.ok.exf b hb).1, I'.ok.exfs b hb, .inl hb, fun x c e => (I'.ok.exf b hb).2 x c e, fun p hp => absurd (show p ∈ ([] : List (Addr × Obj)) ++ [] from hp) (by simp)⟩
  have loop : codeAny (model X.prog X.w) X.A (.compLoop (.SetComp elt [⟨tg, iter, ifs, 0⟩] scope pos) 0 (.ref it) (.ref D) ce) (compPost (model X.prog X.w) X.A X.xe use Qf (.ref D) s3.heap.objs.size) s4 := by
    refine compLoopS_any (fun n s' => ∃ i H', Inv (X.blk s3 H3 scope ce fp) [] (wipe σ (own.map (·.2))) H' s' ∧ tn i s'.heap ∧ (∀ b ∈ fp, H' b = none) ∧ W i n H') ?_ m0 ⟨0, H3, I4, st4, nfp, w0⟩
    rintro n s5 ⟨i, H5, I5, st5, n5, w5⟩
    rcases turn i n H5 w5 with ⟨stop, qq⟩ | ⟨go, Nx, hNx, step⟩
    · have td := T.done (X.blk s3 H3 scope ce fp) rfl rfl rfl hc i [] s5 _ H5 (fun _ _ => False) I5 (stat I5 n5) st5 stop
      refine thnF td fun r s6 ⟨hr, I6⟩ => ?_
      subst hr
      -- back in the def's context
      have I7 : Inv X pins σ H5 s6 := I3.call' (ch := fp) I6.os I6.base I6.hok I6.bare fun b hb => ⟨(f3 b hb).1.2.2.2.1, (f3 b hb).1.2.1, (f3 b hb).1.2.2.2.2.1, (f3 b hb).1.2.2.2.2.2⟩
      have nC : H5 s3.heap.objs.size = none := by
        have z : H5 ce.locals = none := I6.free
        rw [cL] at z
        exact z
      obtain ⟨m, hn, _⟩ := I6.loc
      have hn : s6.heap.Ns ce.locals m := hn
      rw [cL] at hn
      exact hRR D s3.heap.objs.size s6 m H5 I7 qq hn (I3.fpOk (Nat.le_refl _) nC)
    · have ti := T.item (X.blk s3 H3 scope ce fp) rfl rfl rfl hc i [] s5 _ H5 (fun _ _ => False) I5 (stat I5 n5) st5 go
      refine thnF ti fun r s6 ⟨u, hr, h6⟩ => ?_
      subst hr
      refine thnF h6 fun _ s7 ⟨x, H7, I7, r7, y7, st7, n7⟩ => ?_
      have I7' := I7.pinned (stat I7 n7) (T.obj _ _ st7)
      refine thnF (pg.run _ s7 _ H7 x u _ I7' r7 (step x H7 y7)) fun _ s8 ⟨σ8, H8, I8, hw8, q8⟩ => ?_
      refine thnF (pt.run _ s8 σ8 H8 _ I8 q8) fun b s9 ⟨H9, I9, q9⟩ => ?_
      -- the turn's end
      have fin : ∀ {s' : Shared} {H' : Hp}, Inv (X.blk s3 H3 scope ce fp) ([] ++ pinsAt fp s7.heap) σ8 H' s' → Nx H' → ∃ m, m < n ∧ ∃ i H', Inv (X.blk s3 H3 scope ce fp) [] (wipe σ (own.map (·.2))) H' s' ∧ tn i s'.heap ∧ (∀ b ∈ fp, H' b = none) ∧ W i m H' := fun {s' H'} I' nx => by
        obtain ⟨m', hm, w'⟩ := hNx H' nx
        have pin' : ∀ b ∈ fp, ∀ o, s7.heap.get? b = some o → s'.heap.get? b = some o ∧ H' b = none := fun b hb o e =>
          let z := I'.pin (b, o) (List.mem_append_right _ (List.mem_append_right _ (mem_pinsAt hb e)))
          ⟨z.1, z.2.1⟩
        have hl : (wipe σ (own.map (·.2))).length = σ8.length := by rw [← hw8, wipe_length]
        refine ⟨m', hm, i + 1, H', (I'.unpinned (pins := [])).weak hl (fun j v e => ?_), T.keep _ _ _ st7 fun b hb o e => (pin' b hb o e).1, fun b hb => ?_, w'⟩
        · rw [← hw8] at e
          exact (wipe_some e).1
        · obtain ⟨o, e, _⟩ := T.obj _ _ st7 b hb
          exact (pin' b hb o e).2
      cases b with
      | false =>
        simp only [Bool.false_eq_true, if_false] at q9 ⊢
        exact fin I9 q9
      | true =>
        simp only [if_true] at q9 ⊢
        refine thnF (pe.run _ s9 σ8 H9 _ I9 q9) fun z s10 ⟨yv, H10, I10, r10, q10⟩ => ?_
        exact wpAny_mono (A.added s3 H3 scope ce fp _ _ _ _ _ _ _ _ I10 r10 q10 _) (fun _ s11 ⟨H11, I11, nx⟩ => fin I11 nx) fun _ _ z => z
  exact codeAny_compStart_set loop (T.self X.A 0 _ _ _ st4 loop)
theorem pe_scG (A : Into X) {elt tg iter : Expr} {ifs : List Expr} {scope : Scope} {own : List (PySem.Str × Nat)} {pos : Pos} {wi : TI} {g : TG} {tt : TT} {te : TE} (hc : X.calm = true) (hN : X.N.Nodup) (hi : PI X tg iter wi) (ok : BlkOk X.N X.env.scope scope own)
    (hg : ∀ (s : Shared) (H : Hp) (C : Addr) (cl : List (PySem.Str × Addr)) (fp : List Addr), PG (X.blk s H scope (compEnvC scope cl C X.env) fp) tg g) (ht : ∀ (s : Shared) (H : Hp) (C : Addr) (cl : List (PySem.Str × Addr)) (fp : List Addr), PTs (X.blk s H scope (compEnvC scope cl C X.env) fp) ifs tt)
    (he : ∀ (s : Shared) (H : Hp) (C : Addr) (cl : List (PySem.Str × Addr)) (fp : List Addr), PE (X.blk s H scope (compEnvC scope cl C X.env) fp) elt te) (hs : ∀ x, foldedSetIterable iter X.env x = pure x := by intro _; rfl) :
    PE X (.SetComp elt [⟨tg, iter, ifs, 0⟩] scope pos) (tScG A wi g tt te (own.map (·.2))) := by
  refine ⟨fun pins s σ H Q I h => ?_⟩
  rw [eval_SetComp]
  refine scG_core A hc hN I hi ok hg ht he hs h fun D C s' m H' I' q hn f => ⟨m, hn, fun h'' sb => ?_⟩
  obtain ⟨f0, f1, f2, f3, f4, f5⟩ := f
  exact ⟨.ref D, H', I'.turned (t' := s'.toks) (fun b o hb e => (sb.2 b hb).trans e) f0 f1 f3 f4 f5, rfl, q⟩
/-- sets of whole numbers -/
@[reducible] def intoI (X : Cx) : Into X where
  made := fun D => SetO X.w D (fun _ => false) 0
  put := fun D y H N => ∃ (c : Int) (S : Int → Bool) (n : Nat), y = .int c ∧ H D = some (SetO X.w D S n) ∧ n + 1 < scanBound ∧ N (upd H D (SetO X.w D (fun j => S j || decide (j = c)) (if S c = true then n else n + 1)))
  laid := fun h H => setO_new ((setR_new_at (ns := []) (Heap.get?_push_size _ rfl)).congr fun _ => rfl)
  added := by
    intro s0 H0 sc ce fp pins σ H s D y v N I r ⟨c, S, n, ey, hD, room, nx⟩ E
    subst ey
    obtain ⟨t, rfl⟩ := r
    have R : SetR X.w s.heap D S n := setO_get (X := X.blk s0 H0 sc ce fp) I hD
    refine setR_add R room fun h' sb new => ?_
    obtain ⟨o, _, _, _, ho, _⟩ := id new
    exact ⟨_, I.write (e := D) (t' := s.toks + 1) (by rw [hD]; trivial) (.inl rfl) (fun b u hb hu => (sb.2 b hb).trans hu) ⟨o, ho⟩ (setO_new new), nx⟩
/-- over a list that the block leaves as it is -/
theorem scG_list (A : Into X) {K : PySem.W.Frag} {a : Addr} {xs : List V} {g : TG} {tt : TT} {te : TE} {vs : List Nat} {σ : L2.St} {H1 : Hp} {D : Addr} {Qd : Hp → Prop} (Pv : Nat → Hp → Prop) (start : Pv 0 (upd H1 D (A.made D))) (stays : ∀ i G, Pv i G → SqL K G a xs)
    (step : ∀ i x G, xs[i]? = some x → Pv i G → g x (wipe σ vs) G fun σ2 H2 => wipe σ2 vs = wipe σ vs ∧ tt σ2 H2 fun b H3 => if b = true then te σ2 H3 fun y H4 => A.put D y H4 (Pv (i + 1)) else Pv (i + 1) H3) (fin : ∀ G, Pv xs.length G → Qd G) :
    ∃ W : Nat → Nat → Hp → Prop, (∃ m, W 0 m (upd H1 D (A.made D))) ∧ ∀ i m G, W i m G →
      ((Itl K a).stop i G ∧ Qd G) ∨ ((Itl K a).go i G ∧ ∃ Nx : Hp → Prop, (∀ G', Nx G' → ∃ m', m' < m ∧ W (i + 1) m' G') ∧ ∀ x G', (Itl K a).yld i G x G' → g x (wipe σ vs) G' fun σ2 H2 => wipe σ2 vs = wipe σ vs ∧ tt σ2 H2 fun b H3 =>
        if b = true then te σ2 H3 fun y H4 => A.put D y H4 Nx else Nx H3) := by
  refine ⟨fun i m G => m + i = xs.length ∧ Pv i G, ⟨xs.length, rfl, start⟩, ?_⟩
  rintro i m G ⟨e, p⟩
  have sq := stays i G p
  rcases Nat.lt_or_ge i xs.length with lt | ge
  · refine .inr ⟨⟨xs, xs[i], sq, List.getElem?_eq_getElem lt⟩, Pv (i + 1), fun G' p' => ⟨m - 1, by omega, by omega, p'⟩, fun x G' told => ?_⟩
    obtain ⟨rfl, y⟩ := told
    exact step i x G' (y xs sq) p
  · have e' : i = xs.length := by omega
    subst e'
    exact .inl ⟨⟨xs, sq, Nat.le_refl _⟩, fin G p⟩
end
/-! ### set(xs) of a list of ints, with its order; sorted of it: sorted_set of the library -/
abbrev bareS (w : World) : Obj := { cls := .type "set", dict := none, data := .set #[] 0 (.fresh 0 0 (!w.params.followText "set-order")) }
section
variable {P : Program} {w : World} {A : Around} {E : Value → Shared → Prop} {s : Shared}
set_option maxRecDepth 100000 in
set_option maxHeartbeats 3200000 in
theorem set_of_ints {l : Addr} {items : Array Value} (ns : List Int) {Q : Value → Shared → Prop} (calm : A.handled = none) (il : s.heap.IsList l items) (are : IntsAre items.toList ns) (few : ns.length + 1 < scanBound)
    (h : ∀ (h' : Heap) (tk c : Nat), SetR w h' s.heap.objs.size (fun j => decide (j ∈ ns)) c → c ≤ ns.length → (∀ b o, s.heap.get? b = some o → h'.get? b = some o) → Q (.ref s.heap.objs.size) { s with heap := h', toks := tk }) :
    wpAny (model P w) A (call (.type "set") [.ref l]) Q E s := by
  have sz : items.size = ns.length := by
    rw [← IntsAre.length are, Array.length_toList]
  obtain ⟨c, tl, mro⟩ := F.called_set.mro
  have m1 := F.called_set.made
  have m2 := F.called_set.sub
  refine wpAny_call (codeAny_of_tree ?_)
  show wpAny _ _ (callAny (.type "set") _) _ _ _
  refine wpAny_pure ⟨Code.quiet_builtin _ (by decide +kernel), codeAny_builtin F.entry_type_call ?_⟩
  rw [Around.under_plain (weight_type_call_type "set" [.ref l] []) rfl]
  have m3 := F.called_set.notType
  have m4 := F.called_set.canCreate
  have m5 := F.typeCall_set_1 (.ref l)
  repeat any_goals first | assumption | wp_step
  refine codeAny_mono (code_set_led1 (.ref l) (E := E) (Q₁ := fun obj s1 => obj = .ref s.heap.objs.size ∧ s1 = { s with heap := s.heap.push (bareS w) }) ⟨rfl, rfl⟩) fun r s1 told => ?_
  match r, told with
  | .error e, told => exact told
  | .ok .next, told => exact told.elim
  | .ok .brk, told => exact told.elim
  | .ok .cont, told => exact told.elim
  | .ok (.ret obj), told =>
    obtain ⟨rfl, rfl⟩ := told
    have at1 : (s.heap.push (bareS w)).get? s.heap.objs.size = some (bareS w) := Heap.get?_push_size _ rfl
    have ty1 : Shared.TypeIs { s with heap := s.heap.push (bareS w) } (.ref s.heap.objs.size) "set" := ⟨_, at1, rfl⟩
    have i1 := F.called_set.init.lookup
    have i2 := F.called_set.init.bind (.ref s.heap.objs.size)
    repeat any_goals first | assumption | wp_step
    refine codeAny_mono (codeAny_call_builtin (R := wants (fun r s2 => r = .none ∧ ∃ h' tk c, s2 = { s with heap := h', toks := tk } ∧ SetR w h' s.heap.objs.size (fun j => decide (j ∈ ns)) c ∧ c ≤ ns.length ∧
      (∀ b o, s.heap.get? b = some o → h'.get? b = some o)) E) F.called_set.init.plain F.entry_set_init (check_set_init_1 ty1 ?_)) fun r2 s2 told2 => ?_
    · obtain ⟨⟨k1, k2, k3, k4⟩, ol, oc, nl, od⟩ := il
      simp only at oc od
      subst oc
      subst od
      have ol' : (s.heap.push (bareS w)).get? l = some { cls := .type "list", dict := k2, data := .seq items nl, slots := k4 } := Heap.get?_push_of_some _ ol
      have b1 := F.sub_list_set
      have b2 := F.sub_list_frozenset
      have b3 : (Value.type "list" == Value.type "dict") = false := by decide
      have il1 : (s.heap.push (bareS w)).IsList l items := ⟨_, ol', rfl, nl, rfl⟩
      unfold Builtin.«set.__init__» noKeywords Builtin.Frozenset.updateFrom
      generalize gen : pyIter = walker
      wp_walk
      subst gen
      refine wpAny_pyIter_list il1 (wpAny_bind (wpAny_runValue ?_))
      have ll : l < s.heap.objs.size := Heap.lt_size ol
      have z1 : (s.heap.push (bareS w)).objs.size = s.heap.objs.size + 1 := Heap.size_push ..
      have d1 : l ≠ (s.heap.push (bareS w)).objs.size := by rw [z1]; exact Nat.ne_of_lt (Nat.lt_succ_of_lt ll)
      have d2 : s.heap.objs.size ∉ [(s.heap.push (bareS w)).objs.size, l] := by
        simp only [List.mem_cons, List.not_mem_nil, or_false, not_or]
        rw [z1]
        exact ⟨Nat.ne_of_lt (Nat.lt_succ_self _), Nat.ne_of_gt ll⟩
      have vals : ∀ (i : Nat) (v : Value), items[i]? = some v → ∃ k t, ns[i]? = some k ∧ v = .int k t := fun i v hv => by
        have li : i < ns.length := by
          rw [← sz]
          exact (Array.getElem?_eq_some_iff.mp hv).1
        obtain ⟨t, e⟩ := PyProof.Rows.IntsAre.int_at are i v (by rw [Array.getElem?_toList]; exact hv)
        refine ⟨ns[i], t, List.getElem?_eq_getElem li, ?_⟩
        rw [e, List.getD_eq_getElem?_getD, List.getElem?_eq_getElem li]
        rfl
      refine set_update_ints ((Walks.list (by simp [calm]) _ l d1 items).toS) s.heap.objs.size d2 ns sz few vals (items.size - 0) 0 _ (by omega) (Nat.zero_le _)
        ⟨⟨_, Heap.get?_push_size _ rfl, rfl, rfl⟩, (il1.push _)⟩ ⟨0, Nat.le_refl 0, setR_new_at (Heap.get?_push_of_some _ at1)⟩ fun s' c' moved le new => ?_
      obtain ⟨h', g', d', tk', o'⟩ := s'
      have y1 : g' = s.gens := moved.gens
      have y2 : d' = s.drawn := moved.drawn
      have y3 : o' = s.os := moved.os
      subst y1 y2 y3
      show wpAny _ _ _ _ _ _
      refine wpAny_pure ?_
      show wpAny _ _ (ret Value.none) _ _ _
      rw [sz] at le
      refine wpAny_pure ⟨rfl, h', tk', c', rfl, new, le, fun b o e => moved.heap b o ?_ (Heap.get?_push_of_some _ (Heap.get?_push_of_some _ e))⟩
      have lb := Heap.lt_size e
      simp only [List.mem_cons, List.not_mem_nil, or_false, not_or]
      rw [z1]
      exact ⟨Nat.ne_of_lt lb, Nat.ne_of_lt (Nat.lt_succ_of_lt lb)⟩
    · match r2, told2 with
      | .error e, told2 => exact told2
      | .ok .next, told2 => exact told2.elim
      | .ok .brk, told2 => exact told2.elim
      | .ok .cont, told2 => exact told2.elim
      | .ok (.ret r), told2 =>
        obtain ⟨rfl, h', tk, c, rfl, new, le, old⟩ := told2
        repeat any_goals first | assumption | wp_step
        exact h _ _ _ new le old
end
section
variable {X : Cx}
def rSetOfJ (K : PySem.W.Frag) (w : World) : List V → Hp → VK → Prop := fun xs H Q => ∃ (l : Addr) (ns : List Int), xs = [V.ref l] ∧ SqL K H l (ns.map V.int) ∧ ns.length < 4000 ∧ ∀ a c, H a = none → Q (.ref a) (upd H a (SetO w a (fun j => decide (j ∈ ns)) c))
theorem cr_setOfJ (calm : X.calm = true) : CallR X (.type "set") (rSetOfJ X.K X.w) := by
  rintro pins s σ H xs us Q I r ⟨l, ns, rfl, hl, few, q⟩
  rw [Vals.ref1 r]
  obtain ⟨its, rv, pl, _⟩ := I.list hl
  refine set_of_ints (P := X.prog) (w := X.w) ns (I.ok.hd calm) pl.isList (by simpa using rv.ints) (by unfold scanBound; omega) fun h' tk c new le old => ?_
  exact ⟨.ref s.heap.objs.size, upd H s.heap.objs.size (SetO X.w s.heap.objs.size (fun j => decide (j ∈ ns)) c), I.laid (t' := tk) old (Nat.le_refl _) (setO_new new), rfl, q _ c (I.hok.fresh (Nat.le_refl _))⟩
end
end G0
namespace G0
open PySem PySem.Spec PyProof.Rows L2
/-! ### data -/
mutual
def noL : PyData → Bool
  | .none | .bool _ | .int _ | .str _ => true
  | .list _ | .dict _ => false
  | .tuple xs => noLs xs
def noLs : List PyData → Bool
  | [] => true
  | x :: xs => noL x && noLs xs
end
section
variable {K : PySem.W.Frag} {H H' : Hp} {p : Addr}
theorem sqt_chg (hp : ∃ xs, H p = some (.lst xs)) (c : Chg p H H') {a : Addr} {xs : List V} (h : SqT K H a xs) : SqT K H' a xs := by
  obtain ⟨ys, hp⟩ := hp
  rcases h with (h | ⟨o, h⟩) | h
  · exact .inl (.inl (c _ _ (ne_of h hp (by intro z; cases z)) h))
  · exact .inl (.inr ⟨o, c _ _ (ne_of h hp (by intro z; cases z)) h⟩)
  · exact .inr h
theorem sqt_same (c : Same H H') {a : Addr} {xs : List V} (h : SqT K H a xs) : SqT K H' a xs := by
  rcases h with (h | ⟨o, h⟩) | h
  · exact .inl (.inl (c _ _ h))
  · exact .inl (.inr ⟨o, c _ _ h⟩)
  · exact .inr h
mutual
theorem dp_chg (hp : ∃ xs, H p = some (.lst xs)) (c : Chg p H H') : ∀ (d : PyData) (v : V), noL d = true → Dp K H v d → Dp K H' v d
  | .none, _, _, h => by cases h; exact .non
  | .bool _, _, _, h => by cases h; exact .bl _
  | .int _, _, _, h => by cases h; exact .int _
  | .str _, _, _, h => by cases h; exact .str _
  | .list _, _, n, _ => by simp [noL] at n
  | .dict _, _, n, _ => by simp [noL] at n
  | .tuple ds, _, n, h => by
    cases h with
    | tup hs ha => exact .tup (sqt_chg hp c hs) (dps_chg hp c ds _ (by simpa [noL] using n) ha)
theorem dps_chg (hp : ∃ xs, H p = some (.lst xs)) (c : Chg p H H') : ∀ (ds : List PyData) (vs : List V), noLs ds = true → DpAll K H vs ds → DpAll K H' vs ds
  | [], _, _, h => by cases h; exact .nil
  | d :: ds, _, n, h => by
    simp only [noLs, Bool.and_eq_true] at n
    cases h with
    | cons h1 h2 => exact .cons (dp_chg hp c d _ n.1 h1) (dps_chg hp c ds _ n.2 h2)
end
mutual
theorem dp_same (c : Same H H') : ∀ (d : PyData) (v : V), Dp K H v d → Dp K H' v d
  | .none, _, h => by cases h; exact .non
  | .bool _, _, h => by cases h; exact .bl _
  | .int _, _, h => by cases h; exact .int _
  | .str _, _, h => by cases h; exact .str _
  | .list ds, _, h => by
    cases h with
    | lst hs ha => exact .lst (c.seq hs) (dps_same c ds _ ha)
  | .dict _, _, h => by cases h
  | .tuple ds, _, h => by
    cases h with
    | tup hs ha => exact .tup (sqt_same c hs) (dps_same c ds _ ha)
theorem dps_same (c : Same H H') : ∀ (ds : List PyData) (vs : List V), DpAll K H vs ds → DpAll K H' vs ds
  | [], _, h => by cases h; exact .nil
  | d :: ds, _, h => by
    cases h with
    | cons h1 h2 => exact .cons (dp_same c d _ h1) (dps_same c ds _ h2)
end
theorem dps_app {vs ws : List V} {ds es : List PyData} : DpAll K H vs ds → DpAll K H ws es → DpAll K H (vs ++ ws) (ds ++ es) := by
  intro h g
  match vs, ds, h with
  | [], [], _ => exact g
  | _ :: _, _ :: _, .cons h1 h2 => exact .cons h1 (dps_app h2 g)
theorem dps_len {vs : List V} {ds : List PyData} : DpAll K H vs ds → vs.length = ds.length := by
  intro h
  match vs, ds, h with
  | [], [], _ => rfl
  | _ :: _, _ :: _, .cons _ h2 => exact congrArg (· + 1) (dps_len h2)
end
theorem noLs_of : ∀ {ds : List PyData}, (∀ d ∈ ds, noL d = true) → noLs ds = true
  | [], _ => rfl
  | d :: ds, h => by
    simp only [noLs, Bool.and_eq_true]
    exact ⟨h d (List.mem_cons_self ..), noLs_of fun x hx => h x (List.mem_cons_of_mem _ hx)⟩
/-! ### things and letters -/
inductive Thing : Nat → PyData → Prop
  | num {n : Nat} {i : Int} : 0 ≤ i → i < 10 ^ 60 → Thing n (.int i)
  | tup {n : Nat} {ds : List PyData} : ds.length ≤ 2 → (∀ d ∈ ds, Thing n d) → Thing (n + 1) (.tuple ds)
theorem Thing.noL {n : Nat} {d : PyData} (h : Thing n d) : noL d = true := by
  induction h with
  | num _ _ => rfl
  | tup _ _ ih =>
    simp only [G0.noL]
    exact noLs_of ih
theorem Thing.mono {n m : Nat} {d : PyData} (h : Thing n d) (le : n ≤ m) : Thing m d := by
  induction h generalizing m with
  | num a b => exact .num a b
  | tup l _ ih =>
    cases m with
    | zero => omega
    | succ m => exact .tup l fun d hd => ih d hd (by omega)
def WordOk (z : Str) : Prop := 1 ≤ z.length ∧ z.length ≤ 8 ∧ (∀ c ∈ z.cps.toList, 97 ≤ c ∧ c ≤ 122) ∧ z ≠ "gone"
def LetterD (d : PyData) : Prop := ∃ (z : Str) (ds : List PyData), d = .tuple (.str z :: ds) ∧ WordOk z ∧ ds.length ≤ 5 ∧ ∀ x ∈ ds, Thing 3 x
theorem LetterD.noL {d : PyData} (h : LetterD d) : noL d = true := by
  obtain ⟨z, ds, rfl, _, _, hd⟩ := h
  simp only [G0.noL, noLs, Bool.true_and]
  exact noLs_of fun x hx => (hd x hx).noL
theorem Chg.mut {p D : Addr} {H0 H1 : Hp} {o : HO} (a : Chg p H0 H1) (n : H0 D = none) : Chg p H0 (upd H1 D o) := fun b u m e => by
  rw [upd_ne (ne_of_none e n)]; exact a b u m e
theorem PotAt.ne {n : Nat} {H H' : Hp} {p D : Addr} {o : HO} (h : PotAt n H p) (d : p ≠ D) (e : H' = upd H D o) : PotAt n H' p := by
  obtain ⟨xs, q, r⟩ := h
  exact ⟨xs, by rw [e, upd_ne d]; exact q, r⟩
theorem PotAt.new {n : Nat} {H : Hp} {p D : Addr} {o : HO} (h : PotAt n H p) (d : H D = none) : PotAt n (upd H D o) p := h.keep (same_upd d)
theorem PotAt.neD {n : Nat} {H : Hp} {p D : Addr} (h : PotAt n H p) (d : H D = none) : p ≠ D := by
  obtain ⟨xs, q, r⟩ := h
  exact ne_of_none q d
theorem PotAt.lst {n : Nat} {H : Hp} {p : Addr} (h : PotAt n H p) : ∃ xs, H p = some (.lst xs) := by
  obtain ⟨xs, q, r⟩ := h
  exact ⟨xs, q⟩
theorem PotAt.neT {n : Nat} {H : Hp} {p t : Addr} {xs : List V} (h : PotAt n H p) (d : H t = some (.tup xs)) : t ≠ p := by
  obtain ⟨ys, q, r⟩ := h
  exact ne_of d q (by intro z; cases z)
theorem Cal.imp {P : Program} {w : World} {K : PySem.W.Frag} {mg : Str → Option Value} {base : Heap} {x : Str} {k : Nat} {ps : List Str} {sp sp' : Sp}
    (C : Cal P w K mg base x k ps sp) (h : ∀ vs H Q E, sp' vs H Q E → sp vs H Q E) : Cal P w K mg base x k ps sp' := by
  obtain ⟨f, fd, F, r⟩ := C
  exact ⟨f, fd, ⟨fun a b c d q => F.len _ _ _ _ (h _ _ _ _ q), fun A o s H args us vs Q E hr he hb hv hs => F.run A o s H args us vs Q E hr he hb hv (h _ _ _ _ hs)⟩, r⟩
theorem cal_no {P : Program} {w : World} {K : PySem.W.Frag} {mg : Str → Option Value} {base : Heap} {x : Str} {st : Stmt} {ps : List Str} (F : Fn K mg x st)
    (bd : ∀ (kV doc pm : Value) (an : Option Addr) (cdv ct : Value) (us : List Value), us.length = ps.length →
      bindArgs (PySem.W.fnOf x x (defArgs st) (defBody st) (defScope st) .none kV doc pm an cdv ct) ⟨us, []⟩ = pure (ps.zip us)) :
    Cal P w K mg base x 0 ps (fun _ _ _ _ => False) := by
  obtain ⟨f, fd, F, m⟩ := F
  obtain ⟨oc, od, kV, doc, pm, an, cdv, ct, osl, e, lk, c⟩ := id F.ex
  exact ⟨f, fd, ⟨fun _ _ _ _ h => h.elim, fun _ _ _ _ _ _ _ _ _ _ _ _ _ h => h.elim⟩, F.binds bd, m, F.kp, oc, od, osl, lk⟩
/-! ### texts of small letters -/
theorem az : ∀ j : Fin 26, (("abcdefghijklmnopqrstuvwxyz" : Str).cps.toList)[j.val]? = some (97 + j.val) := by decide +kernel
theorem az_at {d : Int} (h0 : 0 ≤ d) (h1 : d < 26) : atI ("abcdefghijklmnopqrstuvwxyz" : Str).cps.toList d = some (97 + d.toNat) := by
  have e : d = ((d.toNat : Nat) : Int) := by omega
  have q := az ⟨d.toNat, by omega⟩
  rw [e]
  exact atI_nat q
def sg (c : Nat) : Str := ⟨#[c]⟩
open TL in
theorem joinL_sg : ∀ cs : List Nat, joinL [] (cs.map fun c => [c]) = cs
  | [] => rfl
  | [c] => rfl
  | c :: d :: r => by
    show [c] ++ ([] ++ joinL [] ((d :: r).map fun c => [c])) = c :: d :: r
    rw [joinL_sg (d :: r)]
    rfl
open TL in
theorem tl_of (z : Str) : tl z = z.cps.toList := rfl
open TL in
theorem join_sg (cs : List Nat) : (Txt.join "" (cs.map sg)).cps.toList = cs := by
  rw [join_eq, ← tl_of, tl_join]
  have e : (cs.map sg).map tl = cs.map fun c => [c] := by rw [List.map_map]; rfl
  rw [e]
  exact joinL_sg cs
open TL in
theorem join_sg_len (cs : List Nat) : (Txt.join "" (cs.map sg)).length = cs.length := by
  have e := congrArg List.length (join_sg cs)
  rw [← e]
  show _ = (Txt.join "" (cs.map sg)).cps.toList.length
  simp [Str.length]
theorem sum_sg : ∀ cs : List Nat, ((cs.map sg).map (·.length)).sum = cs.length
  | [] => rfl
  | c :: r => by
    show 1 + ((r.map sg).map (·.length)).sum = r.length + 1
    rw [sum_sg r]; omega

end G0
namespace G0
open PySem PySem.Spec PyProof.Rows L2
theorem iteF' {c : Bool} {A B : Prop} (e : c = false) (h : B) : if c = true then A else B := by rw [e]; exact iteF h
theorem iteT' {c : Bool} {A B : Prop} (e : c = true) (h : A) : if c = true then A else B := by rw [e]; exact iteT h
/-! ### several lists may change -/
def ChgS (S : List Addr) (H H' : Hp) : Prop := ∀ b o, b ∉ S → H b = some o → H' b = some o
section
variable {S : List Addr} {p q : Addr} {H H' H0 H1 H2 : Hp} {o : HO}
theorem ChgS.refl : ChgS S H H := fun _ _ _ e => e
theorem ChgS.trans (a : ChgS S H H1) (b : ChgS S H1 H2) : ChgS S H H2 := fun c o n e => b c o n (a c o n e)
theorem Chg.s (h : Chg p H H') (m : p ∈ S) : ChgS S H H' := fun b o n e => h b o (fun z => n (z ▸ m)) e
theorem Same.s (h : Same H H') : ChgS S H H' := fun b o _ e => h b o e
theorem ChgS.mono {T : List Addr} (h : ChgS S H H') (m : ∀ b ∈ S, b ∈ T) : ChgS T H H' := fun b o n e => h b o (fun z => n (m b z)) e
theorem ChgS.new (a : ChgS S H H1) (n : H1 q = none) : ChgS S H (upd H1 q o) := fun b u m e => by
  rw [upd_ne (ne_of_none (a b u m e) n)]; exact a b u m e
theorem ChgS.mut (a : ChgS S H H1) (n : H q = none) : ChgS S H (upd H1 q o) := fun b u m e => by
  rw [upd_ne (ne_of_none e n)]; exact a b u m e
theorem ChgS.put (a : ChgS S H H1) (m : q ∈ S) : ChgS S H (upd H1 q o) := fun b u n e => by
  have nb : b ≠ q := fun z => n (by rw [z]; exact m)
  rw [upd_ne nb]; exact a b u n e
/-- what is new behind was new ahead -/
theorem ChgS.back (a : ChgS S H H1) (n : H1 q = none) (m : q ∉ S) : H q = none := by
  cases e : H q with
  | none => rfl
  | some u => rw [a q u m e] at n; cases n
theorem Chg.back (a : Chg p H H1) (n : H1 q = none) (m : q ≠ p) : H q = none := by
  cases e : H q with
  | none => rfl
  | some u => rw [a q u m e] at n; cases n
theorem PotAt.keepS {n : Nat} (h : PotAt n H p) (s : ChgS S H H') (m : p ∉ S) : PotAt n H' p := by
  obtain ⟨xs, e, h⟩ := h
  exact ⟨xs, s _ _ m e, h⟩
end
/-! ### lists of ints -/
section
variable {K : PySem.W.Frag} {H : Hp}
theorem dps_ints : ∀ ns : List Int, DpAll K H (ns.map V.int) (ns.map PyData.int)
  | [] => .nil
  | n :: r => .cons (.int n) (dps_ints r)
theorem dp_ints {a : Addr} {ns : List Int} (h : H a = some (.lst (ns.map V.int))) : Dp K H (.ref a) (.list (ns.map PyData.int)) := .lst (SqL.of h) (dps_ints ns)
theorem lay_ints : ∀ ns : List Int, PyData.canLayAll0 (ns.map PyData.int) = true
  | [] => by simp [PyData.canLayAll0]
  | n :: r => by simp [PyData.canLayAll0, PyData.canLay0, lay_ints r]
theorem deep_ints : ∀ ns : List Int, PyData.depthAll (ns.map PyData.int) = 0
  | [] => by simp [PyData.depthAll]
  | n :: r => by simp [PyData.depthAll, PyData.depth, deep_ints r]
theorem shaped_ints (ns : List Int) : SeqAt.shaped (.list (ns.map PyData.int)) = true := by
  show ((PyData.list (ns.map PyData.int)).canLay0 && decide ((PyData.list (ns.map PyData.int)).depth ≤ 64)) = true
  simp [PyData.canLay0, PyData.depth, lay_ints, deep_ints]
theorem flat_ints : ∀ ns : List Int, (ns.map V.int).all flatV = true
  | [] => rfl
  | n :: r => by simp [flatV, flat_ints r]
theorem inV_ints (v : Int) : ∀ ns : List Int, inV (.int v) (ns.map V.int) = decide (v ∈ ns)
  | [] => by simp [inV]
  | n :: r => by
    have ih := inV_ints v r
    unfold inV at ih ⊢
    rw [List.map_cons, List.any_cons, ih]
    show ((n == v) || decide (v ∈ r)) = decide (v ∈ n :: r)
    by_cases e : n = v
    · subst e; simp
    · have e' : ¬ v = n := fun z => e z.symm
      simp [e, e']
theorem at_ints {ns : List Int} {d : Int} (h0 : 0 ≤ d) (h1 : d < ns.length) : ∃ v, v ∈ ns ∧ atI (ns.map V.int) d = some (.int v) := by
  have hk : d.toNat < ns.length := by omega
  have ek : d = ((d.toNat : Nat) : Int) := by omega
  refine ⟨ns[d.toNat], List.getElem_mem hk, ?_⟩
  have q : atI (ns.map V.int) ((d.toNat : Nat) : Int) = some (.int ns[d.toNat]) := atI_nat (by rw [List.getElem?_map, List.getElem?_eq_getElem hk] <;> rfl)
  rw [← ek] at q
  exact q
end
/-! ### how long a repr is -/
mutual
def cost : PyData → Nat
  | .none => 4
  | .bool _ => 5
  | .int _ => 1921
  | .str x => 10 * x.length + 2
  | .list xs => 2 + costs xs
  | .tuple xs => 4 + costs xs
  | .dict _ => 0
def costs : List PyData → Nat
  | [] => 0
  | x :: xs => cost x + 2 + costs xs
end
theorem from_le : ∀ (ts : List Str) (k : Nat) (acc : Str), (textFrom k acc ts).length ≤ acc.length + (ts.map fun t => t.length + 2).sum
  | [], k, acc => by show acc.length ≤ _; simp
  | t :: r, k, acc => by
    have ih := from_le r (k + 1) (acc ++ (if k > 0 then ", " else "" : String) ++ t)
    show (textFrom (k + 1) _ r).length ≤ _
    rw [List.map_cons, List.sum_cons]
    rw [Str.length_append, Str.length_append] at ih
    have sep : (Str.ofString (if k > 0 then ", " else "")).length ≤ 2 := by split <;> decide
    omega
theorem join_le : ∀ ts : List Str, (Str.join ", " ts).length ≤ (ts.map fun t => t.length + 2).sum
  | [] => by decide
  | [x] => by show x.length ≤ _; simp
  | x :: y :: r => by
    have ih := join_le (y :: r)
    show (x ++ (", " : Str) ++ Str.join ", " (y :: r)).length ≤ _
    rw [Str.length_append, Str.length_append, List.map_cons, List.sum_cons]
    have : (", " : Str).length = 2 := by decide
    omega
theorem small_cps {x : Str} (h : PyData.strOk x = true) : ∀ c ∈ x.cps.toList, c < 16 ^ 8 := fun c hc => by
  unfold PyData.strOk at h
  rw [Array.all_eq_true_iff_forall_mem] at h
  have := of_decide_eq_true (h c (Array.mem_toList_iff.mp hc))
  omega
mutual
theorem shown_le : ∀ d : PyData, d.showable = true → d.canLay0 = true → d.shown.length ≤ cost d
  | .none, _, _ => by show (("None" : Str)).length ≤ 4; decide
  | .bool b, _, _ => by cases b <;> (simp only [PyData.shown, cost]; decide)
  | .int i, h, _ => by
    simp only [PyData.shown, cost]
    exact int_text_len_1921 (by simpa [PyData.showable] using h)
  | .str x, _, h => by
    simp only [PyData.shown, cost]
    exact StrLaws.reprText_len x (small_cps (by simpa [PyData.canLay0] using h))
  | .list xs, h, l => by
    have ih := shown_les xs (by simpa [PyData.showable] using h) (by simpa [PyData.canLay0] using l)
    simp only [PyData.shown, cost]
    show (textFrom 0 "[" (PyData.shownAll xs) ++ ("]" : Str)).length ≤ _
    have := from_le (PyData.shownAll xs) 0 "["
    have a : ("[" : Str).length = 1 := by decide
    have b : ("]" : Str).length = 1 := by decide
    rw [Str.length_append]
    omega
  | .tuple xs, h, l => by
    have ih := shown_les xs (by simpa [PyData.showable] using h) (by simpa [PyData.canLay0] using l)
    simp only [PyData.shown, cost]
    show (("(" : Str) ++ Str.join ", " (PyData.shownAll xs) ++ (Str.ofString (if (PyData.shownAll xs).length == 1 then ",)" else ")"))).length ≤ _
    have := join_le (PyData.shownAll xs)
    have a : ("(" : Str).length = 1 := by decide
    have b : (Str.ofString (if (PyData.shownAll xs).length == 1 then ",)" else ")")).length ≤ 2 := by split <;> decide
    rw [Str.length_append, Str.length_append]
    omega
  | .dict _, _, h => by simp [PyData.canLay0] at h
theorem shown_les : ∀ ds : List PyData, PyData.showableAll ds = true → PyData.canLayAll0 ds = true → ((PyData.shownAll ds).map fun t => t.length + 2).sum ≤ costs ds
  | [], _, _ => Nat.le_refl _
  | d :: ds, h, l => by
    simp only [PyData.showableAll, Bool.and_eq_true] at h
    simp only [PyData.canLayAll0, Bool.and_eq_true] at l
    have h1 := shown_le d h.1 l.1
    have h2 := shown_les ds h.2 l.2
    simp only [PyData.shownAll, costs, List.map_cons, List.sum_cons]
    omega
end

end G0
namespace G0
open PySem PySem.Spec PyProof.Rows L2
def top (i : Nat) : Stmt := PySem.Challenge.pw_soleseat_k53_whole_some_set_is_free.main.body.getD i (.Pass ⟨0, 0, 0, 0⟩)
abbrev s_NoSeat__init : Stmt := inClass (top 3) 0
abbrev s_is_below : Stmt := top 5
abbrev s_look_at_seat : Stmt := top 7
abbrev s_TooMany__init : Stmt := inClass (top 9) 0
abbrev s_NoSet__init : Stmt := inClass (top 10) 0
abbrev s_TooManyFallen__init : Stmt := inClass (top 11) 0
abbrev s_NotPrime__init : Stmt := inClass (top 12) 0
abbrev s_lies : Stmt := top 15
abbrev s_shared : Stmt := top 16
abbrev s_free : Stmt := top 17
abbrev s_look_at_prime : Stmt := top 18
abbrev s_u_look_at_seat : Stmt := top 19
abbrev s_look_at_set : Stmt := top 20
abbrev s_last : Stmt := top 21
abbrev s_is_far : Stmt := top 22
abbrev s_is_upright : Stmt := top 23
abbrev s_far_seat : Stmt := top 24
abbrev s_seat_over : Stmt := top 25
abbrev s_set_through : Stmt := top 26
abbrev s_sets_through : Stmt := top 27
abbrev s_set_of : Stmt := top 28
abbrev s_inverse : Stmt := top 29
abbrev s_law_wide : Stmt := top 31
abbrev s_law_take : Stmt := top 32
abbrev s_law_whole : Stmt := top 33
abbrev s_law_is_prime : Stmt := top 34
abbrev s_law_prime : Stmt := top 35
abbrev s_law_right : Stmt := top 36
abbrev s_law_met : Stmt := top 37
abbrev s_law_seat : Stmt := top 38
abbrev s_law : Stmt := top 39
theorem u64 {k : Nat} {A : Around} (hr : Room k A) : A.units + 64 < cLine := by have := hr.un; omega
theorem u65 {k : Nat} {A : Around} (hr : Room k A) : A.units + 65 < cLine := by have := hr.un; omega
theorem dec_ii {a b : Int} : decide (V.int a = V.int b) = decide (a = b) := decide_eq_decide.mpr ⟨fun h => by cases h; rfl, fun h => by rw [h]⟩
section
variable {P : Program} {w : World} {K : PySem.W.Frag} {mg : Str → Option Value} {base : Heap}
/-! ### the feed of k47 to k60 -/
structure BlF (mg : Str → Option Value) : Prop where
  len : mg "len" = none
  range : mg "range" = none
  sum : mg "sum" = none
  sorted : mg "sorted" = none
  set : mg "set" = none
  tuple : mg "tuple" = none
  list : mg "list" = none
  isinstance : mg "isinstance" = none
  int : mg "int" = none
  bool : mg "bool" = none
  min : mg "min" = none
  all : mg "all" = none
  enumerate : mg "enumerate" = none
def FeedL (n : Nat) (xs : List V) : Prop := ∃ (i : Nat) (v : Int), xs = [.int (i : Int), .int v] ∧ i ≤ n ∧ 0 ≤ v
/-- the script and the pot that is drawn from -/
structure Fd (K : PySem.W.Frag) (H0 : Hp) (s p : Addr) (ns : List Int) (n : Nat) (H : Hp) : Prop where
  old : Same H0 H
  np : H0 p = none
  sq : SqL K H0 s (ns.map V.int)
  at_ : ∃ xs, H p = some (.lst xs) ∧ FeedL n xs
theorem Fd.same {H0 H H' : Hp} {s p : Addr} {ns : List Int} {n : Nat} (F : Fd K H0 s p ns n H) (c : Same H H') : Fd K H0 s p ns n H' :=
  { F with old := F.old.trans c, at_ := by obtain ⟨xs, e, f⟩ := F.at_; exact ⟨xs, c _ _ e, f⟩ }
theorem Fd.mono {H0 H : Hp} {s p : Addr} {ns : List Int} {n m : Nat} (F : Fd K H0 s p ns n H) (le : n ≤ m) : Fd K H0 s p ns m H :=
  { F with at_ := by obtain ⟨xs, e, i, v, f1, f2, f3⟩ := F.at_; exact ⟨xs, e, i, v, f1, Nat.le_trans f2 le, f3⟩ }
theorem Fd.lst {H0 H : Hp} {s p : Addr} {ns : List Int} {n : Nat} (F : Fd K H0 s p ns n H) : ∃ xs, H p = some (.lst xs) := by
  obtain ⟨xs, e, _⟩ := F.at_
  exact ⟨xs, e⟩
theorem Fd.put {H0 H : Hp} {s p : Addr} {ns : List Int} {n m : Nat} {ys : List V} (F : Fd K H0 s p ns n H) (y : FeedL m ys) : Fd K H0 s p ns m (upd H p (.lst ys)) :=
  { F with old := fun b o e => (upd_ne (ne_of_none e F.np)).trans (F.old _ _ e), at_ := ⟨ys, upd_same, y⟩ }
theorem Fd.ne {H0 H : Hp} {s p q : Addr} {ns : List Int} {n : Nat} (F : Fd K H0 s p ns n H) (h : H q = none) : q ≠ p := by
  obtain ⟨xs, e⟩ := F.lst
  exact (ne_of_none e h).symm
/-- elsewhere a list is written that was not there at first -/
theorem Fd.mut {H0 H : Hp} {s p q : Addr} {ns : List Int} {n : Nat} {o : HO} (F : Fd K H0 s p ns n H) (h : H0 q = none) (d : q ≠ p) : Fd K H0 s p ns n (upd H q o) :=
  { F with old := fun b x e => (upd_ne (ne_of_none e h)).trans (F.old _ _ e), at_ := by obtain ⟨xs, e, f⟩ := F.at_; exact ⟨xs, (upd_ne d.symm).trans e, f⟩ }
/-! ### _law_wide -/
def spWide : Sp := fun vs H Q _ => ∃ c : Int, vs = [.int c] ∧ ∀ v : Int, 0 ≤ v → Q (.int v) H
theorem sc_law_wide : FnScope ["cell", "one", "other", "third"] ["cell"] (defScope s_law_wide) :=
  ⟨rfl, rfl, rfl, by decide +kernel, rfl, by decide +kernel, by decide +kernel⟩
theorem ok_wide (F : Fn K mg "_law_wide" s_law_wide) : Cal P w K mg base "_law_wide" 1 ["cell"] spWide := by
  refine cal_of F sc_law_wide
    (fun _ _ _ _ _ _ us hl => match us, hl with | [_], _ => rfl) ?_ ?_
  · rintro vs H Q E ⟨c, rfl, _⟩
    rfl
  rintro f cdv A outer s H vs Q E free hr ⟨c, rfl, q⟩
  refine ⟨_, (pss_cons (ps_if (pt_cmpR op_ge (pv 0) (pe_op op_pow pe_int pe_int) (nomark _))
    (pss_one (ps_ret (pv 0)))
    pss_nil)
    (pss_cons (ps_set (i := 1) sc_law_wide.nd rfl (Or.inl rfl) (pe_op op_mod (pe_op op_add (pe_op op_mul (pv 0) pe_int) pe_int) pe_int))
    (pss_cons (ps_set (i := 2) sc_law_wide.nd rfl (Or.inl rfl) (pe_op op_mod (pe_op op_add (pe_op op_add (pe_op op_mul (pv 1) (pv 1)) (pe_op op_mul (pv 0) pe_int)) pe_int) pe_int))
    (pss_cons (ps_set (i := 3) sc_law_wide.nd rfl (Or.inl rfl) (pe_op op_mod (pe_op op_add (pe_op op_mul (pv 2) (pv 2)) (pv 1)) pe_int))
    (pss_one (ps_ret (pe_op op_add (pe_op op_fdivW (pv 1) pe_int) (pe_op op_mul pe_int (pe_op op_add (pe_op op_fdivW (pv 2) pe_int) (pe_op op_mul pe_int (pe_op op_fdivW (pv 3) pe_int))))))))))), ?_⟩
  refine ⟨_, rfl, _, _, rfl, rfl, ⟨by decide, by decide, by decide⟩, _, _, rfl, rfl, _, rfl, ?_⟩
  refine ite2 (fun c1 => ?_) (fun c1 => ?_)
  · have c2 : 10 ^ (Int.toNat 18) ≤ c := of_decide_eq_true c1
    have c3 : (0 : Int) ≤ 10 ^ (Int.toNat 18) := by decide
    exact ⟨_, rfl, q _ (by omega)⟩
  · have m1 : (0 : Int) < 2147483647 := by decide
    have m2 : (0 : Int) < 2147483629 := by decide
    have m3 : (0 : Int) < 1000000007 := by decide
    refine ⟨_, rfl, _, _, rfl, rfl, .inr ⟨by decide, by decide⟩, _, _, rfl, rfl, _, _, rfl, rfl, m1, ?_⟩
    generalize h1 : (c * 48271 + 12345) % 2147483647 = one
    have a1 : 0 ≤ one := by rw [← h1]; exact Int.emod_nonneg _ (by decide)
    have b1 : one < 2147483647 := by rw [← h1]; exact Int.emod_lt_of_pos _ (by decide)
    refine ⟨_, rfl, _, rfl, _, _, rfl, rfl, .inl ⟨by omega, by omega⟩, _, rfl, _, _, rfl, rfl, .inr ⟨by decide, by decide⟩, _, _, rfl, rfl, _, _, rfl, rfl, _, _, rfl, rfl, m2, ?_⟩
    generalize h2 : (one * one + c * 69621 + 7) % 2147483629 = other
    have a2 : 0 ≤ other := by rw [← h2]; exact Int.emod_nonneg _ (by decide)
    have b2 : other < 2147483629 := by rw [← h2]; exact Int.emod_lt_of_pos _ (by decide)
    refine ⟨_, rfl, _, rfl, _, _, rfl, rfl, .inl ⟨by omega, by omega⟩, _, rfl, _, _, rfl, rfl, _, _, rfl, rfl, m3, ?_⟩
    generalize h3 : (other * other + one) % 1000000007 = third
    have a3 : 0 ≤ third := by rw [← h3]; exact Int.emod_nonneg _ (by decide)
    have b3 : third < 1000000007 := by rw [← h3]; exact Int.emod_lt_of_pos _ (by decide)
    have d8 : ∀ x : Int, CDivW x 8 := fun x => ⟨by decide, by decide⟩
    have e1 : 0 ≤ one / 8 := Int.ediv_nonneg a1 (by decide)
    have e2 : 0 ≤ other / 8 := Int.ediv_nonneg a2 (by decide)
    have e3 : 0 ≤ third / 8 := Int.ediv_nonneg a3 (by decide)
    refine ⟨_, rfl, _, _, rfl, rfl, d8 _, _, rfl, _, _, rfl, rfl, d8 _, _, rfl, _, _, rfl, rfl, d8 _, _, _, rfl, rfl, .inl ⟨by decide, by decide⟩, _, _, rfl, rfl, _, _, rfl, rfl, .inl ⟨by decide, by decide⟩, _, _, rfl, rfl, q _ (by omega)⟩
/-! ### _law_take -/
def spTake (K : PySem.W.Frag) : Sp := fun vs H Q _ => ∃ (H0 : Hp) (s p : Addr) (ns : List Int) (n : Nat) (m : Int), vs = [.ref s, .ref p, .int m] ∧ Fd K H0 s p ns n H ∧ n < 1000000000 ∧ 0 < m ∧ m.natAbs < 2 ^ 250 ∧
  ∀ (d : Int) (ys : List V), 0 ≤ d → d < m → FeedL (n + 1) ys → Q (.int d) (upd H p (.lst ys))
theorem sc_law_take : FnScope ["script", "pot", "many", "cell", "found"] ["script", "pot", "many"] (defScope s_law_take) :=
  ⟨rfl, rfl, rfl, by decide +kernel, rfl, by decide +kernel, by decide +kernel⟩
theorem ok_take (F : Fn K mg "_law_take" s_law_take) (T : BlF mg) (C_wide : Cal P w K mg base "_law_wide" 1 ["cell"] spWide) : Cal P w K mg base "_law_take" 2 ["script", "pot", "many"] (spTake K) := by
  refine cal_of F sc_law_take
    (fun _ _ _ _ _ _ us hl => match us, hl with | [_, _, _], _ => rfl) ?_ ?_
  · rintro vs H Q E ⟨H0, s, p, ns, n, m, rfl, _⟩
    rfl
  rintro f cdv A outer s' H vs Q E free hr ⟨H0, s, p, ns, n, m, rfl, D, nb, m0, mb, q⟩
  refine ⟨_, (pss_cons (ps_if (pt_cmpR op_eq (pe_ix ix_list (pv 1) pe_int (fun _ _ => rfl)) pe_int (nomark _))
    (pss_cons (ps_set (i := 3) sc_law_take.nd rfl (Or.inl rfl) (pe_op op_mul (pe_op op_add (pe_op op_mod (pe_callB (cr_sum (by rfl)) (by rfl) T.sum (by decide +kernel) (pa_cons (pv 0) pa_nil)) pe_int) pe_int) (pe_op op_add (pe_ix ix_list (pv 1) pe_int (fun _ _ => rfl)) pe_int)))
    (pss_cons (ps_if (pt_cmpR op_lt (pe_ix ix_list (pv 1) pe_int (fun _ _ => rfl)) (pe_callB call_len_seq (by rfl) T.len (by decide +kernel) (pa_cons (pv 0) pa_nil)) (nomark _))
    (pss_one (ps_set (i := 3) sc_law_take.nd rfl (Or.inl rfl) (pe_ix ix_list (pv 0) (pe_ix ix_list (pv 1) pe_int (fun _ _ => rfl)) (fun _ _ => rfl))))
    pss_nil)
    (pss_cons (ps_asg (pe_op op_add (pe_ix ix_list (pv 1) pe_int (fun _ _ => rfl)) pe_int) (pg_sub (pv 1) pe_int set_list))
    (pss_one (ps_asg (pe_cal C_wide free (hr.mono (by decide)) (pa_cons (pv 3) pa_nil)) (pg_sub (pv 1) pe_int set_list))))))
    pss_nil)
    (pss_cons (ps_set (i := 4) sc_law_take.nd rfl (Or.inl rfl) (pe_op op_mod (pe_ix ix_list (pv 1) pe_int (fun _ _ => rfl)) (pv 2)))
    (pss_cons (ps_asg (pe_op op_fdivW (pe_ix ix_list (pv 1) pe_int (fun _ _ => rfl)) (pv 2)) (pg_sub (pv 1) pe_int set_list))
    (pss_one (ps_ret (pv 4)))))), ?_⟩
  obtain ⟨xs, hp, i, v, rfl, il, v0⟩ := D.at_
  have hS := D.old.seq D.sq
  have dv : ∀ x : Int, CDivW x m := fun x => wide_div m0 mb (by decide) (by decide)
  have hl : (ns.map V.int).length = ns.length := List.length_map _
  refine ⟨_, rfl, p, _, _, _, rfl, rfl, SqL.of hp, rfl, rfl, _, rfl, ?_⟩
  rw [dec_ii]
  refine ite2 (fun c1 => ?_) (fun c1 => ?_)
  · refine ⟨_, rfl, s, ns, rfl, hS, ?_⟩
    generalize ns.sum = su
    refine ⟨_, _, rfl, rfl, (by show (0 : Int) < 1000003; decide), _, _, rfl, rfl, _, rfl, p, _, _, _, rfl, rfl, SqL.of hp, rfl, _, _, rfl, rfl, _, _, rfl, rfl, .inl ⟨by omega, by omega⟩, ?_⟩
    refine ⟨_, rfl, p, _, _, _, rfl, rfl, SqL.of hp, rfl, _, rfl, s, _, rfl, .inl hS, _, _, rfl, rfl, _, rfl, ?_⟩
    refine ite2 (fun c2 => ?_) (fun c2 => ?_)
    · have c' : (i : Int) < (((ns.map V.int).length : Nat) : Int) := of_decide_eq_true c2
      have hi : i < ns.length := by omega
      refine ⟨_, rfl, _, rfl, p, _, _, _, rfl, rfl, SqL.of hp, rfl, s, _, _, _, rfl, rfl, hS, atI_nat (v := .int ns[i]) (by rw [List.getElem?_map, List.getElem?_eq_getElem hi]; rfl), ?_⟩
      refine ⟨_, rfl, p, _, _, _, rfl, rfl, SqL.of hp, rfl, _, _, rfl, rfl, _, rfl, p, _, _, _, rfl, rfl, hp, rfl, ?_⟩
      refine ⟨_, rfl, _, rfl, fun v1 v10 => ?_⟩
      refine ⟨_, rfl, p, _, _, _, rfl, rfl, upd_same, rfl, ?_⟩
      rw [upd_upd]
      have hp1 : upd H p (.lst [.int ((i : Int) + 1), .int v1]) p = some (.lst [.int ((i : Int) + 1), .int v1]) := upd_same
      refine ⟨_, rfl, p, _, _, _, rfl, rfl, SqL.of hp1, rfl, _, rfl, _, _, rfl, rfl, m0, ?_⟩
      refine ⟨_, rfl, p, _, _, _, rfl, rfl, SqL.of hp1, rfl, _, rfl, _, _, rfl, rfl, dv _, _, rfl, p, _, _, _, rfl, rfl, hp1, rfl, ?_⟩
      rw [upd_upd]
      refine ⟨_, rfl, q _ _ (Int.emod_nonneg _ (by omega)) (Int.emod_lt_of_pos _ m0) ⟨i + 1, v1 / m, ?_, by omega, Int.ediv_nonneg v10 (by omega)⟩⟩
      rw [Int.natCast_add]
      rfl
    · skip
      refine ⟨_, rfl, p, _, _, _, rfl, rfl, SqL.of hp, rfl, _, _, rfl, rfl, _, rfl, p, _, _, _, rfl, rfl, hp, rfl, ?_⟩
      refine ⟨_, rfl, _, rfl, fun v1 v10 => ?_⟩
      refine ⟨_, rfl, p, _, _, _, rfl, rfl, upd_same, rfl, ?_⟩
      rw [upd_upd]
      have hp1 : upd H p (.lst [.int ((i : Int) + 1), .int v1]) p = some (.lst [.int ((i : Int) + 1), .int v1]) := upd_same
      refine ⟨_, rfl, p, _, _, _, rfl, rfl, SqL.of hp1, rfl, _, rfl, _, _, rfl, rfl, m0, ?_⟩
      refine ⟨_, rfl, p, _, _, _, rfl, rfl, SqL.of hp1, rfl, _, rfl, _, _, rfl, rfl, dv _, _, rfl, p, _, _, _, rfl, rfl, hp1, rfl, ?_⟩
      rw [upd_upd]
      refine ⟨_, rfl, q _ _ (Int.emod_nonneg _ (by omega)) (Int.emod_lt_of_pos _ m0) ⟨i + 1, v1 / m, ?_, by omega, Int.ediv_nonneg v10 (by omega)⟩⟩
      rw [Int.natCast_add]
      rfl
  · refine ⟨_, rfl, p, _, _, _, rfl, rfl, SqL.of hp, rfl, _, rfl, _, _, rfl, rfl, m0, ?_⟩
    refine ⟨_, rfl, p, _, _, _, rfl, rfl, SqL.of hp, rfl, _, rfl, _, _, rfl, rfl, dv _, _, rfl, p, _, _, _, rfl, rfl, hp, rfl, ?_⟩
    exact ⟨_, rfl, q _ _ (Int.emod_nonneg _ (by omega)) (Int.emod_lt_of_pos _ m0) ⟨i, _, rfl, by omega, Int.ediv_nonneg v0 (by omega)⟩⟩
end

end G0
namespace G0
/-! ### primes -/
structure Pr (p : Nat) : Prop where
  two : 2 ≤ p
  top : p ≤ 9973
  no : ∀ d, 2 ≤ d → d * d ≤ p → ¬ d ∣ p
theorem Pr.cop {p : Nat} (h : Pr p) {a : Nat} (n : ¬ p ∣ a) : Nat.Coprime p a := by
  have g1 := Nat.gcd_dvd_left p a
  have g2 := Nat.gcd_dvd_right p a
  have p0 : 0 < p := by have := h.two; omega
  have gp : Nat.gcd p a ≠ p := fun e => n (by rw [e] at g2; exact g2)
  have gpos : 0 < Nat.gcd p a := Nat.gcd_pos_of_pos_left a p0
  obtain ⟨k, hk⟩ := g1
  unfold Nat.Coprime
  generalize Nat.gcd p a = g at *
  apply Classical.byContradiction
  intro g1
  have gk2 : 2 ≤ g := by omega
  have k2 : 2 ≤ k := by
    rcases Nat.lt_or_ge k 2 with c | c
    · have : k = 0 ∨ k = 1 := by omega
      rcases this with e | e
      · rw [e, Nat.mul_zero] at hk; omega
      · rw [e, Nat.mul_one] at hk; exact absurd hk.symm gp
    · exact c
  rcases Nat.le_total g k with c | c
  · exact h.no g gk2 (by rw [hk]; exact Nat.mul_le_mul_left g c) ⟨k, hk⟩
  · exact h.no k k2 (by rw [hk]; exact Nat.mul_le_mul_right k c) ⟨g, by rw [hk, Nat.mul_comm]⟩
theorem Pr.euc {p : Nat} (h : Pr p) {a b : Nat} (d : p ∣ a * b) : p ∣ a ∨ p ∣ b := by
  by_cases n : p ∣ a
  · exact .inl n
  · exact .inr ((h.cop n).dvd_of_dvd_mul_left d)
/-! ### the power that inverts -/
def prL : List Nat → Nat
  | [] => 1
  | x :: l => x * prL l
theorem prL_perm {l m : List Nat} (h : l.Perm m) : prL l = prL m := by
  induction h with
  | nil => rfl
  | cons x _ ih => exact congrArg (x * ·) ih
  | swap x y l => show y * (x * prL l) = x * (y * prL l); rw [← Nat.mul_assoc, ← Nat.mul_assoc, Nat.mul_comm y x]
  | trans _ _ a b => exact a.trans b
theorem perm_of {l : List Nat} : ∀ {m : List Nat}, l.Nodup → (∀ x ∈ l, x ∈ m) → m.length ≤ l.length → l.Perm m := by
  induction l with
  | nil =>
    intro m _ _ len
    have := List.eq_nil_of_length_eq_zero (Nat.le_zero.mp len)
    subst this
    exact List.Perm.nil
  | cons x t ih =>
    intro m nd sub len
    have hx := sub x (List.mem_cons_self ..)
    have pe := List.perm_cons_erase hx
    obtain ⟨n1, n2⟩ := List.nodup_cons.mp nd
    have le := pe.length_eq
    rw [List.length_cons] at le len
    refine (List.Perm.cons x (ih (m := m.erase x) n2 (fun y hy => ?_) (by omega))).trans pe.symm
    have := pe.mem_iff.mp (sub y (List.mem_cons_of_mem _ hy))
    rcases List.mem_cons.mp this with e | e
    · exact absurd (e ▸ hy) n1
    · exact e
theorem prL_map (p a : Nat) : ∀ l : List Nat, prL (l.map fun i => a * i % p) % p = a ^ l.length * prL l % p
  | [] => by simp [prL]
  | x :: l => by
    have ih := prL_map p a l
    show (a * x % p) * prL (l.map fun i => a * i % p) % p = a ^ (l.length + 1) * (x * prL l) % p
    rw [Nat.mul_mod, Nat.mod_mod, ih, ← Nat.mul_mod, Nat.pow_succ]
    refine congrArg (· % p) ?_
    rw [Nat.mul_comm (a ^ l.length) a, Nat.mul_assoc, Nat.mul_assoc, Nat.mul_left_comm x]
theorem Pr.prL {p : Nat} (h : Pr p) : ∀ {l : List Nat}, (∀ x ∈ l, ¬ p ∣ x) → ¬ p ∣ prL l
  | [], _ => fun d => by
    have := Nat.le_of_dvd (by decide) d
    have := h.two
    simp [G0.prL] at *
    omega
  | x :: l, n => fun d => by
    rcases h.euc d with c | c
    · exact n x (List.mem_cons_self ..) c
    · exact h.prL (l := l) (fun y hy => n y (List.mem_cons_of_mem _ hy)) c
theorem small_no {p x : Nat} (h1 : 0 < x) (h2 : x < p) : ¬ p ∣ x := fun d => by
  have := Nat.le_of_dvd h1 d
  omega
theorem Pr.flt {p : Nat} (h : Pr p) {a : Nat} (n : ¬ p ∣ a) : a ^ (p - 1) % p = 1 := by
  have p2 := h.two
  obtain ⟨l, hl⟩ : ∃ l, l = (List.range (p - 1)).map (· + 1) := ⟨_, rfl⟩
  have ll : l.length = p - 1 := by rw [hl, List.length_map, List.length_range]
  have mem : ∀ x, x ∈ l ↔ 0 < x ∧ x < p := fun x => by
    rw [hl, List.mem_map]
    constructor
    · rintro ⟨y, hy, rfl⟩
      have := List.mem_range.mp hy
      omega
    · rintro ⟨h1, h2⟩
      exact ⟨x - 1, List.mem_range.mpr (by omega), by omega⟩
  have nin : ∀ x ∈ l, ¬ p ∣ x := fun x hx => small_no ((mem x).mp hx).1 ((mem x).mp hx).2
  have ndl : l.Nodup := by
    rw [hl]
    exact List.Pairwise.map _ (fun a b hab e => hab (by omega)) List.nodup_range
  have inj : ∀ x ∈ l, ∀ y ∈ l, a * x % p = a * y % p → x = y := fun x hx y hy e => by
    have hx' := (mem x).mp hx
    have hy' := (mem y).mp hy
    have key : ∀ x y, x < p → y < p → x ≤ y → a * x % p = a * y % p → x = y := fun x y h1 h2 le e => by
      have d : p ∣ a * y - a * x := Nat.dvd_of_mod_eq_zero (Nat.sub_mod_eq_zero_of_mod_eq e.symm)
      rw [← Nat.mul_sub] at d
      rcases h.euc d with c | c
      · exact absurd c n
      · rcases Nat.eq_zero_or_pos (y - x) with z | z
        · omega
        · have := Nat.le_of_dvd z c; omega
    rcases Nat.le_total x y with c | c
    · exact key x y hx'.2 hy'.2 c e
    · exact (key y x hy'.2 hx'.2 c e.symm).symm
  have nd : (l.map fun i => a * i % p).Nodup := by
    refine List.pairwise_map.mpr ?_
    refine List.Pairwise.imp_of_mem (fun {x y} hx hy hxy e => hxy (inj x hx y hy e)) ndl
  have pe : (l.map fun i => a * i % p).Perm l := perm_of nd (fun x hx => by
    obtain ⟨i, hi, rfl⟩ := List.mem_map.mp hx
    refine (mem _).mpr ⟨?_, Nat.mod_lt _ (by omega)⟩
    rcases Nat.eq_zero_or_pos (a * i % p) with z | z
    · rcases h.euc (Nat.dvd_of_mod_eq_zero z) with c | c
      · exact absurd c n
      · exact absurd c (nin i hi)
    · exact z) (by rw [List.length_map]; exact Nat.le_refl _)
  have e1 := prL_map p a l
  rw [prL_perm pe, ll] at e1
  have d : p ∣ a ^ (p - 1) * G0.prL l - G0.prL l := Nat.dvd_of_mod_eq_zero (Nat.sub_mod_eq_zero_of_mod_eq e1.symm)
  have a1 : 1 ≤ a ^ (p - 1) := by
    rcases Nat.eq_zero_or_pos a with z | z
    · exact absurd (by rw [z]; exact Nat.dvd_zero p) n
    · exact Nat.pow_pos z
  have d2 : p ∣ (a ^ (p - 1) - 1) * G0.prL l := by rw [Nat.sub_mul, Nat.one_mul]; exact d
  rcases h.euc d2 with c | c
  · obtain ⟨k, hk⟩ := c
    have : a ^ (p - 1) = 1 + p * k := by omega
    rw [this, Nat.add_mul_mod_self_left, Nat.mod_eq_of_lt (by omega)]
  · exact absurd c (h.prL nin)
theorem dvdZ {p : Nat} {a : Int} : (p : Int) ∣ a ↔ p ∣ a.natAbs := by
  rw [← Int.natAbs_dvd_natAbs, Int.natAbs_natCast]
theorem Pr.eucZ {p : Nat} (h : Pr p) {a b : Int} (d : (p : Int) ∣ a * b) : (p : Int) ∣ a ∨ (p : Int) ∣ b := by
  have d' : p ∣ a.natAbs * b.natAbs := by
    rw [← Int.natAbs_mul]
    exact dvdZ.mp d
  rcases h.euc d' with c | c
  · exact .inl (dvdZ.mpr c)
  · exact .inr (dvdZ.mpr c)
theorem small_eq {p : Nat} {a : Int} (d : (p : Int) ∣ a) (h1 : -(p : Int) < a) (h2 : a < p) : a = 0 := by
  obtain ⟨k, hk⟩ := d
  have p0 : (0 : Int) ≤ p := Int.natCast_nonneg p
  rcases Int.lt_trichotomy k 0 with c | c | c
  · have := Int.mul_le_mul_of_nonneg_left (show k ≤ -1 by omega) p0
    omega
  · rw [c, Int.mul_zero] at hk; exact hk
  · have := Int.mul_le_mul_of_nonneg_left (show 1 ≤ k by omega) p0
    omega
/-! ### which seats lie in which sets: seat (x, j) and set (m, i) -/
def inc (p : Nat) (x j m i : Int) : Prop :=
  if m = p then (x = p ∨ j = p) else if x = p then i = 0 else if j = p then (i ≠ 0 ∧ x = m) else if i = 0 then x = m else (p : Int) ∣ x * (m - x) + i - j
/-- the places of seats and sets -/
def Pl (p : Nat) (x j : Int) : Prop := 0 ≤ x ∧ x ≤ p ∧ 0 ≤ j ∧ j ≤ p ∧ (x = p → j = 0)
theorem inc_one {p : Nat} (h : Pr p) {x j x' j' m i n k : Int} (s : Pl p x j) (s' : Pl p x' j') (q : Pl p m i) (q' : Pl p n k) (ne : ¬ (m = n ∧ i = k))
    (a : inc p x j m i) (b : inc p x j n k) (c : inc p x' j' m i) (d : inc p x' j' n k) : x = x' ∧ j = j' := by
  obtain ⟨x0, x1, j0, j1, xj⟩ := s
  obtain ⟨x0', x1', j0', j1', xj'⟩ := s'
  obtain ⟨m0, m1, i0, i1, mi⟩ := q
  obtain ⟨n0, n1, k0, k1, nk⟩ := q'
  have p2 := h.two
  unfold inc at a b c d
  by_cases hm : m = p
  · rw [if_pos hm] at a c
    have hn : ¬ n = p := fun e => ne ⟨by omega, by have := mi hm; have := nk e; omega⟩
    rw [if_neg hn] at b d
    by_cases hx : x = p <;> by_cases hx' : x' = p
    · exact ⟨by omega, by have := xj hx; have := xj' hx'; omega⟩
    · rw [if_pos hx] at b
      rw [if_neg hx'] at d
      have hj' : j' = p := c.resolve_left hx'
      rw [if_pos hj'] at d
      exact absurd b d.1
    · rw [if_neg hx] at b
      rw [if_pos hx'] at d
      have hj : j = p := a.resolve_left hx
      rw [if_pos hj] at b
      exact absurd d b.1
    · rw [if_neg hx] at b
      rw [if_neg hx'] at d
      have hj : j = p := a.resolve_left hx
      have hj' : j' = p := c.resolve_left hx'
      rw [if_pos hj] at b
      rw [if_pos hj'] at d
      exact ⟨by rw [b.2, d.2], by omega⟩
  rw [if_neg hm] at a c
  by_cases hn : n = p
  · rw [if_pos hn] at b d
    by_cases hx : x = p <;> by_cases hx' : x' = p
    · exact ⟨by omega, by have := xj hx; have := xj' hx'; omega⟩
    · rw [if_pos hx] at a
      rw [if_neg hx'] at c
      have hj' : j' = p := d.resolve_left hx'
      rw [if_pos hj'] at c
      exact absurd a c.1
    · rw [if_neg hx] at a
      rw [if_pos hx'] at c
      have hj : j = p := b.resolve_left hx
      rw [if_pos hj] at a
      exact absurd c a.1
    · rw [if_neg hx] at a
      rw [if_neg hx'] at c
      have hj : j = p := b.resolve_left hx
      have hj' : j' = p := d.resolve_left hx'
      rw [if_pos hj] at a
      rw [if_pos hj'] at c
      exact ⟨by rw [a.2, c.2], by omega⟩
  rw [if_neg hn] at b d
  -- a seat with last number
  by_cases hx : x = p
  · rw [if_pos hx] at a b
    by_cases hx' : x' = p
    · exact ⟨by omega, by have := xj hx; have := xj' hx'; omega⟩
    · rw [if_neg hx'] at c d
      by_cases hj' : j' = p
      · rw [if_pos hj'] at c; exact absurd a c.1
      · rw [if_neg hj', if_pos a] at c
        rw [if_neg hj', if_pos b] at d
        exact absurd ⟨by omega, by omega⟩ ne
  by_cases hx' : x' = p
  · rw [if_pos hx'] at c d
    rw [if_neg hx] at a b
    by_cases hj : j = p
    · rw [if_pos hj] at a; exact absurd c a.1
    · rw [if_neg hj, if_pos c] at a
      rw [if_neg hj, if_pos d] at b
      exact absurd ⟨by omega, by omega⟩ ne
  rw [if_neg hx] at a b
  rw [if_neg hx'] at c d
  have slope : m = n → i ≠ 0 → k ≠ 0 → ∀ {y l : Int}, (p : Int) ∣ y * (m - y) + i - l → (p : Int) ∣ y * (n - y) + k - l → False := fun e hi hk y l u v => by
    rw [e] at u
    have w := Int.dvd_sub u v
    rw [show y * (n - y) + i - l - (y * (n - y) + k - l) = i - k by omega] at w
    have := small_eq w (by omega) (by omega)
    exact ne ⟨e, by omega⟩
  by_cases hj : j = p
  · rw [if_pos hj] at a b
    have emn : m = n := by omega
    by_cases hj' : j' = p
    · rw [if_pos hj'] at c
      exact ⟨by omega, by omega⟩
    · rw [if_neg hj', if_neg a.1] at c
      rw [if_neg hj', if_neg b.1] at d
      exact (slope emn a.1 b.1 c d).elim
  by_cases hj' : j' = p
  · rw [if_pos hj'] at c d
    have emn : m = n := by omega
    rw [if_neg hj, if_neg c.1] at a
    rw [if_neg hj, if_neg d.1] at b
    exact (slope emn c.1 d.1 a b).elim
  rw [if_neg hj] at a b
  rw [if_neg hj'] at c d
  have near : ∀ {y : Int}, x = y → x' = y → ∀ {g l : Int}, (p : Int) ∣ x * (g - x) + l - j → (p : Int) ∣ x' * (g - x') + l - j' → x = x' ∧ j = j' := fun e e' g l u v => by
    subst e'
    rw [e] at u
    have w := Int.dvd_sub u v
    rw [show x' * (g - x') + l - j - (x' * (g - x') + l - j') = j' - j by omega] at w
    have := small_eq w (by omega) (by omega)
    exact ⟨e, by omega⟩
  by_cases hi : i = 0
  · rw [if_pos hi] at a c
    by_cases hk : k = 0
    · rw [if_pos hk] at b
      exact absurd ⟨by omega, by omega⟩ ne
    · rw [if_neg hk] at b d
      exact near a c b d
  rw [if_neg hi] at a c
  by_cases hk : k = 0
  · rw [if_pos hk] at b d
    exact near b d a c
  rw [if_neg hk] at b d
  by_cases emn : m = n
  · exact (slope emn hi hk a b).elim
  have u := Int.dvd_sub a b
  have v := Int.dvd_sub c d
  have u' : x * (m - x) + i - j - (x * (n - x) + k - j) = x * (m - n) + (i - k) := by
    rw [Int.mul_sub, Int.mul_sub, Int.mul_sub]; omega
  have v' : x' * (m - x') + i - j' - (x' * (n - x') + k - j') = x' * (m - n) + (i - k) := by
    rw [Int.mul_sub, Int.mul_sub, Int.mul_sub]; omega
  rw [u'] at u
  rw [v'] at v
  have w := Int.dvd_sub u v
  rw [show x * (m - n) + (i - k) - (x' * (m - n) + (i - k)) = (x - x') * (m - n) by rw [Int.sub_mul]; omega] at w
  rcases h.eucZ w with z | z
  · have := small_eq z (by omega) (by omega)
    have e : x = x' := by omega
    subst e
    have w := Int.dvd_sub a c
    rw [show x * (m - x) + i - j - (x * (m - x) + i - j') = j' - j by omega] at w
    have := small_eq w (by omega) (by omega)
    exact ⟨rfl, by omega⟩
  · have := small_eq z (by omega) (by omega)
    exact absurd (by omega) emn
end G0
namespace G0
/-! ### seats and sets by their numbers -/
def lstZ (p : Nat) : Int := p * (p + 1)
theorem co_mk {p : Nat} {x j : Int} (h0 : 0 ≤ j) (h1 : j ≤ p) : (x * ((p : Int) + 1) + j) / ((p : Int) + 1) = x ∧ (x * ((p : Int) + 1) + j) % ((p : Int) + 1) = j := by
  constructor
  · rw [Int.add_comm, Int.add_mul_ediv_right _ _ (by omega), Int.ediv_eq_zero_of_lt h0 (by omega)]; omega
  · rw [Int.add_comm, Int.add_mul_emod_self_right, Int.emod_eq_of_lt h0 (by omega)]
theorem co_eq (p : Nat) (s : Int) : s / ((p : Int) + 1) * ((p : Int) + 1) + s % ((p : Int) + 1) = s := by
  rw [Int.mul_comm]; exact Int.mul_ediv_add_emod s _
theorem co {p : Nat} {s : Int} (h0 : 0 ≤ s) (h1 : s ≤ lstZ p) : Pl p (s / ((p : Int) + 1)) (s % ((p : Int) + 1)) ∧ (s = lstZ p ↔ s / ((p : Int) + 1) = p) := by
  have e := co_eq p s
  have r0 := Int.emod_nonneg s (show (p : Int) + 1 ≠ 0 by omega)
  have r1 := Int.emod_lt_of_pos s (show (0 : Int) < (p : Int) + 1 by omega)
  have q0 := Int.ediv_nonneg h0 (show (0 : Int) ≤ (p : Int) + 1 by omega)
  unfold lstZ at *
  have q1 : s / ((p : Int) + 1) < (p : Int) + 1 := Int.ediv_lt_of_lt_mul (by omega) (by
    rw [Int.add_mul, Int.one_mul]; omega)
  generalize s / ((p : Int) + 1) = q at *
  generalize s % ((p : Int) + 1) = r at *
  have top : q = p → r = 0 := fun z => by rw [z] at e; omega
  refine ⟨⟨q0, by omega, r0, by omega, top⟩, fun z => ?_, fun z => ?_⟩
  · have qp : q ≤ p := by omega
    rcases Int.lt_or_eq_of_le qp with c | c
    · have : q * ((p : Int) + 1) ≤ ((p : Int) - 1) * ((p : Int) + 1) := Int.mul_le_mul_of_nonneg_right (by omega) (by omega)
      rw [Int.sub_mul, Int.one_mul] at this
      omega
    · exact c
  · rw [← e, top z, z]; omega
def farB (p : Nat) (s : Int) : Bool := decide (s = lstZ p) || decide (s % ((p : Int) + 1) = p)
def uprB (p : Nat) (n : Int) : Bool := !decide (n = lstZ p) && decide (n % ((p : Int) + 1) = 0)
def farS (p : Nat) (n : Int) : Int := if uprB p n = true then lstZ p else n - n % ((p : Int) + 1) + p
def sOver (p : Nat) (n x : Int) : Int := x * ((p : Int) + 1) + (x * (n / ((p : Int) + 1) - x) + n % ((p : Int) + 1)) % p
def sThr (p : Nat) (far near : Int) : Int :=
  if far = lstZ p then near / ((p : Int) + 1) * ((p : Int) + 1) else far / ((p : Int) + 1) * ((p : Int) + 1) + (near % ((p : Int) + 1) - near / ((p : Int) + 1) * (far / ((p : Int) + 1) - near / ((p : Int) + 1)) - 1) % p + 1
def liesB (p : Nat) (s n : Int) : Bool := if n = lstZ p then farB p s else if farB p s = true then decide (s = farS p n) else decide (n = sThr p (farS p n) s)
def InS (p : Nat) (s n : Int) : Prop := inc p (s / ((p : Int) + 1)) (s % ((p : Int) + 1)) (n / ((p : Int) + 1)) (n % ((p : Int) + 1))
theorem mod_dvd (p : Nat) (a : Int) : (p : Int) ∣ a - a % p := ⟨a / p, by have := Int.mul_ediv_add_emod a p; omega⟩
theorem mod_of {p : Nat} {a b : Int} (h : (p : Int) ∣ a - b) (b0 : 0 ≤ b) (b1 : b < p) : a % p = b := by
  obtain ⟨k, hk⟩ := h
  have : a = b + p * k := by omega
  rw [this, Int.add_mul_emod_self_left, Int.emod_eq_of_lt b0 b1]
theorem farS_up {p : Nat} {n : Int} (h : n ≠ lstZ p) (i : n % ((p : Int) + 1) = 0) : farS p n = lstZ p := by
  unfold farS uprB
  rw [if_pos (by simp [h, i])]
theorem farS_sl {p : Nat} {n : Int} (i : n % ((p : Int) + 1) ≠ 0) : farS p n = n / ((p : Int) + 1) * ((p : Int) + 1) + p := by
  unfold farS uprB
  rw [if_neg (by simp [i])]
  have := co_eq p n
  omega
theorem lies_iff {p : Nat} (h : Pr p) {s n : Int} (s0 : 0 ≤ s) (s1 : s ≤ lstZ p) (n0 : 0 ≤ n) (n1 : n ≤ lstZ p) : liesB p s n = true ↔ InS p s n := by
  obtain ⟨⟨x0, x1, j0, j1, xj⟩, es⟩ := co s0 s1
  obtain ⟨⟨m0, m1, i0, i1, mi⟩, en⟩ := co n0 n1
  have p2 := h.two
  have cs := co_eq p s
  have cn := co_eq p n
  unfold liesB InS inc
  by_cases hn : n = lstZ p
  · rw [if_pos hn, if_pos (en.mp hn)]
    unfold farB
    simp only [Bool.or_eq_true, decide_eq_true_eq]
    exact ⟨fun z => z.imp es.mp id, fun z => z.imp es.mpr id⟩
  rw [if_neg hn, if_neg (fun z => hn (en.mpr z))]
  have mp : n / ((p : Int) + 1) < p := by
    have : n / ((p : Int) + 1) ≠ p := fun z => hn (en.mpr z)
    omega
  by_cases hs : s = lstZ p
  · have hx := es.mp hs
    rw [if_pos (by unfold farB; simp [hs]), if_pos hx, decide_eq_true_eq]
    by_cases hi : n % ((p : Int) + 1) = 0
    · rw [farS_up hn hi]; exact ⟨fun _ => hi, fun _ => hs⟩
    · rw [farS_sl hi]
      refine ⟨fun z => ?_, fun z => absurd z hi⟩
      have := (co_mk (p := p) (x := n / ((p : Int) + 1)) (j := p) (by omega) (by omega)).1
      rw [← z] at this
      omega
  have hx : ¬ s / ((p : Int) + 1) = p := fun z => hs (es.mpr z)
  rw [if_neg hx]
  by_cases hj : s % ((p : Int) + 1) = p
  · rw [if_pos (by unfold farB; simp [hj]), if_pos hj, decide_eq_true_eq]
    by_cases hi : n % ((p : Int) + 1) = 0
    · rw [farS_up hn hi]
      exact ⟨fun z => absurd z hs, fun z => absurd hi z.1⟩
    · rw [farS_sl hi]
      refine ⟨fun z => ⟨hi, ?_⟩, fun z => ?_⟩
      · have := (co_mk (p := p) (x := n / ((p : Int) + 1)) (j := p) (by omega) (by omega)).1
        rw [← z] at this
        exact this
      · rw [← z.2]; omega
  have nf : ¬ farB p s = true := by unfold farB; simp [hs, hj]
  rw [if_neg nf, if_neg hj, decide_eq_true_eq]
  by_cases hi : n % ((p : Int) + 1) = 0
  · rw [if_pos hi, farS_up hn hi]
    unfold sThr
    rw [if_pos rfl]
    constructor
    · intro z
      rw [hi] at cn
      have : n = s / ((p : Int) + 1) * ((p : Int) + 1) + 0 := by omega
      have := (co_mk (p := p) (x := s / ((p : Int) + 1)) (j := 0) (by omega) (by omega)).1
      rw [← ‹n = s / ((p : Int) + 1) * ((p : Int) + 1) + 0›] at this
      exact this.symm
    · intro z
      rw [z]; omega
  rw [if_neg hi, farS_sl hi]
  unfold sThr
  have nl : ¬ (n / ((p : Int) + 1) * ((p : Int) + 1) + (p : Int)) = lstZ p := fun z => by
    have := (co_mk (p := p) (x := n / ((p : Int) + 1)) (j := p) (by omega) (by omega)).2
    rw [z] at this
    unfold lstZ at this
    rw [Int.mul_emod_left] at this
    omega
  rw [if_neg nl, (co_mk (p := p) (x := n / ((p : Int) + 1)) (j := p) (by omega) (by omega)).1]
  generalize s / ((p : Int) + 1) = x at *
  generalize s % ((p : Int) + 1) = j at *
  generalize n / ((p : Int) + 1) = m at *
  generalize n % ((p : Int) + 1) = i at *
  have t0 := Int.emod_nonneg (j - x * (m - x) - 1) (show (p : Int) ≠ 0 by omega)
  constructor
  · intro z
    have d := mod_dvd p (j - x * (m - x) - 1)
    have e : j - x * (m - x) - 1 - (j - x * (m - x) - 1) % p = -(x * (m - x) + i - j) := by omega
    rw [e] at d
    exact Int.dvd_neg.mp d
  · intro z
    have : (j - x * (m - x) - 1) % p = i - 1 := mod_of (by
      have e : j - x * (m - x) - 1 - (i - 1) = -(x * (m - x) + i - j) := by omega
      rw [e]; exact Int.dvd_neg.mpr z) (by omega) (by omega)
    rw [this]; omega
theorem InS.one {p : Nat} (h : Pr p) {s t n k : Int} (s0 : 0 ≤ s) (s1 : s ≤ lstZ p) (t0 : 0 ≤ t) (t1 : t ≤ lstZ p) (n0 : 0 ≤ n) (n1 : n ≤ lstZ p) (k0 : 0 ≤ k) (k1 : k ≤ lstZ p) (ne : n ≠ k)
    (a : InS p s n) (b : InS p s k) (c : InS p t n) (d : InS p t k) : s = t := by
  have := inc_one h (co s0 s1).1 (co t0 t1).1 (co n0 n1).1 (co k0 k1).1 (fun z => ne (by rw [← co_eq p n, ← co_eq p k, z.1, z.2])) a b c d
  rw [← co_eq p s, ← co_eq p t, this.1, this.2]
/-! ### the seat that two sets share -/
theorem mk_top {p : Nat} {x j : Int} (x0 : 0 ≤ x) (x1 : x ≤ (p : Int) - 1) (j0 : 0 ≤ j) (j1 : j ≤ p) : 0 ≤ x * ((p : Int) + 1) + j ∧ x * ((p : Int) + 1) + j ≤ lstZ p := by
  have a := Int.mul_nonneg x0 (show (0 : Int) ≤ (p : Int) + 1 by omega)
  have b := Int.mul_le_mul_of_nonneg_right x1 (show (0 : Int) ≤ (p : Int) + 1 by omega)
  rw [Int.sub_mul, Int.one_mul] at b
  unfold lstZ
  omega
theorem inS_mk {p : Nat} {x j n : Int} (j0 : 0 ≤ j) (j1 : j ≤ p) (h : inc p x j (n / ((p : Int) + 1)) (n % ((p : Int) + 1))) : InS p (x * ((p : Int) + 1) + j) n := by
  unfold InS
  obtain ⟨e1, e2⟩ := co_mk (p := p) (x := x) j0 j1
  rw [e1, e2]
  exact h
theorem lst_co (p : Nat) : lstZ p / ((p : Int) + 1) = p ∧ lstZ p % ((p : Int) + 1) = 0 := by
  have := co_mk (p := p) (x := p) (j := 0) (by omega) (by omega)
  rw [Int.add_zero] at this
  exact this
/-- a far seat of a set -/
theorem far_in {p : Nat} {n : Int} (n0 : 0 ≤ n) (n1 : n ≤ lstZ p) (hn : n ≠ lstZ p) : 0 ≤ farS p n ∧ farS p n ≤ lstZ p ∧ InS p (farS p n) n ∧ InS p (farS p n) (lstZ p) := by
  obtain ⟨⟨m0, m1, i0, i1, mi⟩, en⟩ := co n0 n1
  have mp : n / ((p : Int) + 1) ≤ (p : Int) - 1 := by
    have : n / ((p : Int) + 1) ≠ p := fun z => hn (en.mpr z)
    omega
  have lp : 0 ≤ lstZ p := by unfold lstZ; exact Int.mul_nonneg (by omega) (by omega)
  by_cases hi : n % ((p : Int) + 1) = 0
  · rw [farS_up hn hi]
    refine ⟨lp, Int.le_refl _, ?_, ?_⟩
    · unfold InS inc
      rw [(lst_co p).1, if_neg (by omega), if_pos rfl]; exact hi
    · unfold InS inc
      rw [(lst_co p).1, if_pos rfl]; exact .inl rfl
  · rw [farS_sl hi]
    obtain ⟨b0, b1⟩ := mk_top (p := p) m0 mp (j := p) (by omega) (by omega)
    refine ⟨b0, b1, inS_mk (by omega) (by omega) ?_, inS_mk (by omega) (by omega) ?_⟩
    · unfold inc
      rw [if_neg (by omega), if_neg (by omega), if_pos rfl]; exact ⟨hi, rfl⟩
    · unfold inc
      rw [(lst_co p).1, if_pos rfl]; exact .inr rfl
/-- the near seat over a place, of a sloping set -/
theorem over_in {p : Nat} (h : Pr p) {n x : Int} (n0 : 0 ≤ n) (n1 : n ≤ lstZ p) (hn : n ≠ lstZ p) (hi : n % ((p : Int) + 1) ≠ 0) (x0 : 0 ≤ x) (x1 : x < p) :
    0 ≤ sOver p n x ∧ sOver p n x ≤ lstZ p ∧ InS p (sOver p n x) n ∧ sOver p n x / ((p : Int) + 1) = x ∧ sOver p n x % ((p : Int) + 1) = (x * (n / ((p : Int) + 1) - x) + n % ((p : Int) + 1)) % p ∧ sOver p n x % ((p : Int) + 1) < p := by
  have p2 := h.two
  obtain ⟨⟨m0, m1, i0, i1, mi⟩, en⟩ := co n0 n1
  have mp : ¬ n / ((p : Int) + 1) = p := fun z => hn (en.mpr z)
  unfold sOver
  have j0 := Int.emod_nonneg (x * (n / ((p : Int) + 1) - x) + n % ((p : Int) + 1)) (show (p : Int) ≠ 0 by omega)
  have j1 := Int.emod_lt_of_pos (x * (n / ((p : Int) + 1) - x) + n % ((p : Int) + 1)) (show (0 : Int) < p by omega)
  obtain ⟨e1, e2⟩ := co_mk (p := p) (x := x) j0 (by omega)
  obtain ⟨b0, b1⟩ := mk_top (p := p) x0 (by omega) j0 (by omega)
  refine ⟨b0, b1, inS_mk j0 (by omega) ?_, e1, e2, by rw [e2]; exact j1⟩
  unfold inc
  rw [if_neg mp, if_neg (by omega), if_neg (by omega), if_neg hi]
  exact mod_dvd p _
/-- the seat that two sets share, as the program finds it -/
def shD (p : Nat) (r one other : Int) : Int :=
  if one = lstZ p then farS p other else if other = lstZ p ∨ farS p one = farS p other then farS p one else
  if uprB p one = true then sOver p other (one / ((p : Int) + 1)) else if uprB p other = true then sOver p one (other / ((p : Int) + 1)) else
  sOver p one ((other % ((p : Int) + 1) - one % ((p : Int) + 1)) * r % p)
theorem upr_iff {p : Nat} {n : Int} (hn : n ≠ lstZ p) : uprB p n = true ↔ n % ((p : Int) + 1) = 0 := by
  unfold uprB
  simp [hn]
theorem shD_in {p : Nat} (h : Pr p) {r one other : Int} (n0 : 0 ≤ one) (n1 : one ≤ lstZ p) (k0 : 0 ≤ other) (k1 : other ≤ lstZ p) (ne : one ≠ other)
    (hr : one / ((p : Int) + 1) ≠ other / ((p : Int) + 1) → (p : Int) ∣ (one / ((p : Int) + 1) - other / ((p : Int) + 1)) * r - 1) :
    0 ≤ shD p r one other ∧ shD p r one other ≤ lstZ p ∧ InS p (shD p r one other) one ∧ InS p (shD p r one other) other := by
  have p2 := h.two
  unfold shD
  by_cases h1 : one = lstZ p
  · rw [if_pos h1]
    have := far_in k0 k1 (fun z => ne (h1.trans z.symm))
    refine ⟨this.1, this.2.1, ?_, this.2.2.1⟩
    have t := this.2.2.2
    rw [← h1] at t; exact t
  rw [if_neg h1]
  have f1 := far_in n0 n1 h1
  by_cases h2 : other = lstZ p ∨ farS p one = farS p other
  · rw [if_pos h2]
    refine ⟨f1.1, f1.2.1, f1.2.2.1, ?_⟩
    rcases h2 with h2 | h2
    · have t := f1.2.2.2
      rw [← h2] at t; exact t
    · by_cases h3 : other = lstZ p
      · have t := f1.2.2.2
        rw [← h3] at t; exact t
      · rw [h2]; exact (far_in k0 k1 h3).2.2.1
  rw [if_neg h2]
  have h3 : other ≠ lstZ p := fun z => h2 (.inl z)
  have h4 : farS p one ≠ farS p other := fun z => h2 (.inr z)
  obtain ⟨⟨m0, m1, i0, i1, mi⟩, en⟩ := co n0 n1
  obtain ⟨⟨o0, o1, l0, l1, ol⟩, eo⟩ := co k0 k1
  have mp : one / ((p : Int) + 1) < p := by
    have : one / ((p : Int) + 1) ≠ p := fun z => h1 (en.mpr z)
    omega
  have op : other / ((p : Int) + 1) < p := by
    have : other / ((p : Int) + 1) ≠ p := fun z => h3 (eo.mpr z)
    omega
  by_cases hu : one % ((p : Int) + 1) = 0
  · rw [if_pos ((upr_iff h1).mpr hu)]
    have hv : other % ((p : Int) + 1) ≠ 0 := fun z => h4 (by rw [farS_up h1 hu, farS_up h3 z])
    obtain ⟨a, b, c, d, e, g⟩ := over_in h k0 k1 h3 hv m0 mp
    refine ⟨a, b, ?_, c⟩
    unfold InS inc
    rw [d, if_neg (by omega), if_neg (by omega), if_neg (by omega), if_pos hu]
  rw [if_neg (fun z => hu ((upr_iff h1).mp z))]
  by_cases hv : other % ((p : Int) + 1) = 0
  · rw [if_pos ((upr_iff h3).mpr hv)]
    obtain ⟨a, b, c, d, e, g⟩ := over_in h n0 n1 h1 hu o0 op
    refine ⟨a, b, c, ?_⟩
    unfold InS inc
    rw [d, if_neg (by omega), if_neg (by omega), if_neg (by omega), if_pos hv]
  rw [if_neg (fun z => hv ((upr_iff h3).mp z))]
  have mo : one / ((p : Int) + 1) ≠ other / ((p : Int) + 1) := fun z => h4 (by rw [farS_sl hu, farS_sl hv, z])
  have hr := hr mo
  obtain ⟨x, hx⟩ : ∃ x, x = (other % ((p : Int) + 1) - one % ((p : Int) + 1)) * r % p := ⟨_, rfl⟩
  rw [← hx]
  have x0 : 0 ≤ x := by rw [hx]; exact Int.emod_nonneg _ (by omega)
  have x1 : x < p := by rw [hx]; exact Int.emod_lt_of_pos _ (by omega)
  have dx : (p : Int) ∣ (other % ((p : Int) + 1) - one % ((p : Int) + 1)) * r - x := by rw [hx]; exact mod_dvd p _
  obtain ⟨a, b, c, d, e, g⟩ := over_in h n0 n1 h1 hu x0 x1
  refine ⟨a, b, c, ?_⟩
  have c' := c
  unfold InS inc at c' ⊢
  rw [d, if_neg (by omega), if_neg (by omega), if_neg (by omega), if_neg hu] at c'
  rw [d, if_neg (by omega), if_neg (by omega), if_neg (by omega), if_neg hv]
  generalize sOver p one x % ((p : Int) + 1) = j at *
  generalize one / ((p : Int) + 1) = m at *
  generalize one % ((p : Int) + 1) = i at *
  generalize other / ((p : Int) + 1) = n at *
  generalize other % ((p : Int) + 1) = k at *
  -- x (m - n) is k - i
  have t1 : (p : Int) ∣ ((k - i) * r - x) * (m - n) := Int.dvd_mul_of_dvd_left dx
  have t2 : (p : Int) ∣ (k - i) * ((m - n) * r - 1) := Int.dvd_mul_of_dvd_right hr
  have t3 := Int.dvd_sub t1 t2
  have e3 : ∀ a b c y : Int, (a * c - y) * b - a * (b * c - 1) = a - y * b := fun a b c y => by
    rw [Int.sub_mul, Int.mul_sub, Int.mul_one, Int.mul_assoc a c b, Int.mul_comm c b]; omega
  rw [e3] at t3
  have t4 := Int.dvd_add c' t3
  have e4 : x * (m - x) + i - j + (k - i - x * (m - n)) = x * (n - x) + k - j := by
    rw [Int.mul_sub, Int.mul_sub, Int.mul_sub]; omega
  rw [e4] at t4
  exact t4
end G0
namespace G0
/-! ### the inverse, as it is counted -/
theorem inv_step {p f s w : Nat} : f * s ^ w % p = (if w % 2 = 1 then f * s % p else f) * (s * s % p) ^ (w / 2) % p := by
  have e : s ^ w = s ^ (w % 2) * (s * s) ^ (w / 2) := by
    rw [Nat.mul_pow, ← Nat.pow_add, ← Nat.pow_add]
    exact congrArg (s ^ ·) (by omega)
  have pm : ∀ g : Nat, g * (s * s % p) ^ (w / 2) % p = g * (s * s) ^ (w / 2) % p := fun g => by
    rw [Nat.mul_mod, ← Nat.pow_mod, ← Nat.mul_mod]
  rw [pm]
  by_cases c : w % 2 = 1
  · rw [if_pos c, e, c, Nat.pow_one, ← Nat.mul_assoc, Nat.mul_mod (f * s % p), Nat.mod_mod, ← Nat.mul_mod]
  · have z : w % 2 = 0 := by omega
    rw [if_neg c, e, z, Nat.pow_zero, Nat.one_mul]
theorem inv_end {p : Nat} (h : Pr p) {n : Int} (nd : ¬ (p : Int) ∣ n) {f : Nat} (e : f % p = (n % p).toNat ^ (p - 2) % p) : (p : Int) ∣ n * f - 1 := by
  have p2 := h.two
  have a0 := Int.emod_nonneg n (show (p : Int) ≠ 0 by omega)
  obtain ⟨a, ha⟩ : ∃ a : Nat, a = (n % p).toNat := ⟨_, rfl⟩
  have ea : n % p = (a : Int) := by omega
  have na : ¬ p ∣ a := fun d => nd (by
    have : (p : Int) ∣ n % p := by rw [ea]; exact Int.natCast_dvd_natCast.mpr d
    exact (Int.dvd_iff_emod_eq_zero).mpr (by
      have := Int.emod_eq_zero_of_dvd this
      rwa [Int.emod_emod] at this))
  have fl := h.flt na
  rw [← ha] at e
  have k : a * f % p = 1 := by
    rw [Nat.mul_mod, e, ← Nat.mul_mod, ← fl]
    refine congrArg (· % p) ?_
    rw [show p - 1 = (p - 2) + 1 by omega, Nat.pow_succ, Nat.mul_comm]
  have k2 : (p : Int) ∣ (a : Int) * f - 1 := by
    have : a * f = p * (a * f / p) + 1 := by
      have := Nat.div_add_mod (a * f) p
      omega
    refine ⟨((a * f / p : Nat) : Int), ?_⟩
    have z : ((a * f : Nat) : Int) = ((p * (a * f / p) + 1 : Nat) : Int) := congrArg _ this
    rw [Int.natCast_mul, Int.natCast_add, Int.natCast_mul] at z
    omega
  have k3 : (p : Int) ∣ n - a := by rw [← ea]; exact mod_dvd p n
  have k4 : (p : Int) ∣ (n - a) * f := Int.dvd_mul_of_dvd_left k3
  have := Int.dvd_add k4 k2
  rwa [show (n - a) * (f : Int) + ((a : Int) * f - 1) = n * f - 1 by rw [Int.sub_mul]; omega] at this
/-! ### the seats of a set -/
def setL (p : Nat) (n : Int) : List Int :=
  if n = lstZ p then (List.range p).map (fun x : Nat => (x : Int) * ((p : Int) + 1) + p) ++ [lstZ p] else
  if uprB p n = true then (List.range p).map (fun j : Nat => n + (j : Int)) ++ [lstZ p] else
  (List.range p).map (fun x : Nat => sOver p n (x : Int)) ++ [farS p n]
theorem setL_len (p : Nat) (n : Int) : (setL p n).length = p + 1 := by
  unfold setL
  split
  · simp
  · split <;> simp
theorem nd_snoc {α : Type} {f : Nat → α} {p : Nat} {z : α} (inj : ∀ x < p, ∀ y < p, f x = f y → x = y) (nz : ∀ x < p, f x ≠ z) : ((List.range p).map f ++ [z]).Nodup := by
  refine List.nodup_append.mpr ⟨?_, by simp, fun a ha b hb => ?_⟩
  · refine List.pairwise_map.mpr (List.Pairwise.imp_of_mem (fun {x y} hx hy hxy e => hxy (inj x (List.mem_range.mp hx) y (List.mem_range.mp hy) e)) List.nodup_range)
  · obtain ⟨x, hx, rfl⟩ := List.mem_map.mp ha
    rw [show b = z by simpa using hb]
    exact nz x (List.mem_range.mp hx)
theorem mul_inj {p : Nat} {x y : Nat} {c : Int} (e : (x : Int) * ((p : Int) + 1) + c = (y : Int) * ((p : Int) + 1) + c) : x = y := by
  have e2 : (x : Int) * ((p : Int) + 1) = (y : Int) * ((p : Int) + 1) := by omega
  have := Int.eq_of_mul_eq_mul_right (show ((p : Int) + 1) ≠ 0 by omega) e2
  omega
theorem setL_nd {p : Nat} (h : Pr p) {n : Int} (n0 : 0 ≤ n) (n1 : n ≤ lstZ p) : (setL p n).Nodup := by
  have p2 := h.two
  unfold setL
  by_cases c1 : n = lstZ p
  · rw [if_pos c1]
    refine nd_snoc (fun x _ y _ e => mul_inj e) (fun x hx e => ?_)
    have := (co_mk (p := p) (x := x) (j := p) (by omega) (by omega)).1
    rw [e, (lst_co p).1] at this
    omega
  rw [if_neg c1]
  obtain ⟨⟨m0, m1, i0, i1, mi⟩, en⟩ := co n0 n1
  have mp : n / ((p : Int) + 1) ≤ (p : Int) - 1 := by
    have : n / ((p : Int) + 1) ≠ p := fun z => c1 (en.mpr z)
    omega
  by_cases c2 : uprB p n = true
  · rw [if_pos c2]
    have hi := (upr_iff c1).mp c2
    refine nd_snoc (fun x _ y _ e => by omega) (fun x hx e => ?_)
    have cn := co_eq p n
    have := (co_mk (p := p) (x := n / ((p : Int) + 1)) (j := x) (by omega) (by omega)).1
    rw [show n / ((p : Int) + 1) * ((p : Int) + 1) + (x : Int) = lstZ p by omega, (lst_co p).1] at this
    omega
  · rw [if_neg c2]
    have hi : n % ((p : Int) + 1) ≠ 0 := fun z => c2 ((upr_iff c1).mpr z)
    refine nd_snoc (fun x hx y hy e => ?_) (fun x hx e => ?_)
    · have a := (over_in h n0 n1 c1 hi (x := x) (by omega) (by omega)).2.2.2.1
      have b := (over_in h n0 n1 c1 hi (x := y) (by omega) (by omega)).2.2.2.1
      rw [e] at a
      omega
    · have a := (over_in h n0 n1 c1 hi (x := x) (by omega) (by omega)).2.2.2.2.2
      rw [e, farS_sl hi, (co_mk (p := p) (x := n / ((p : Int) + 1)) (j := p) (by omega) (by omega)).2] at a
      omega
theorem setL_in {p : Nat} (h : Pr p) {n s : Int} (n0 : 0 ≤ n) (n1 : n ≤ lstZ p) (s0 : 0 ≤ s) (s1 : s ≤ lstZ p) (a : InS p s n) : s ∈ setL p n := by
  have p2 := h.two
  obtain ⟨⟨x0, x1, j0, j1, xj⟩, es⟩ := co s0 s1
  obtain ⟨⟨m0, m1, i0, i1, mi⟩, en⟩ := co n0 n1
  have cs := co_eq p s
  have cn := co_eq p n
  unfold InS inc at a
  unfold setL
  have ran : ∀ {z : Int}, 0 ≤ z → z < p → z.toNat ∈ List.range p := fun a b => List.mem_range.mpr (by omega)
  by_cases c1 : n = lstZ p
  · rw [if_pos (en.mp c1)] at a
    rw [if_pos c1]
    by_cases hx : s = lstZ p
    · rw [hx]; simp
    · have hx' : s / ((p : Int) + 1) ≠ p := fun z => hx (es.mpr z)
      refine List.mem_append_left _ (List.mem_map.mpr ⟨(s / ((p : Int) + 1)).toNat, ran x0 (by omega), ?_⟩)
      have hj := a.resolve_left hx'
      rw [show (((s / ((p : Int) + 1)).toNat : Nat) : Int) = s / ((p : Int) + 1) by omega]
      omega
  rw [if_neg (fun z => c1 (en.mpr z))] at a
  rw [if_neg c1]
  by_cases hi : n % ((p : Int) + 1) = 0
  · rw [if_pos ((upr_iff c1).mpr hi)]
    by_cases hx : s = lstZ p
    · rw [hx]; simp
    · have hx' : s / ((p : Int) + 1) ≠ p := fun z => hx (es.mpr z)
      rw [if_neg hx'] at a
      by_cases hj : s % ((p : Int) + 1) = p
      · rw [if_pos hj] at a; exact absurd hi a.1
      · rw [if_neg hj, if_pos hi] at a
        refine List.mem_append_left _ (List.mem_map.mpr ⟨(s % ((p : Int) + 1)).toNat, ran j0 (by omega), ?_⟩)
        rw [show (((s % ((p : Int) + 1)).toNat : Nat) : Int) = s % ((p : Int) + 1) by omega]
        rw [a] at cs
        omega
  · rw [if_neg (fun z => hi ((upr_iff c1).mp z))]
    by_cases hx : s = lstZ p
    · rw [if_pos (es.mp hx)] at a; exact absurd a hi
    · have hx' : s / ((p : Int) + 1) ≠ p := fun z => hx (es.mpr z)
      rw [if_neg hx'] at a
      by_cases hj : s % ((p : Int) + 1) = p
      · rw [if_pos hj] at a
        rw [farS_sl hi, ← a.2]
        refine List.mem_append_right _ ?_
        rw [show s = s / ((p : Int) + 1) * ((p : Int) + 1) + (p : Int) by omega]
        rw [show (s / ((p : Int) + 1) * ((p : Int) + 1) + (p : Int)) / ((p : Int) + 1) = s / ((p : Int) + 1) from (co_mk (p := p) (x := s / ((p : Int) + 1)) (j := p) (by omega) (by omega)).1]
        simp
      · rw [if_neg hj, if_neg hi] at a
        refine List.mem_append_left _ (List.mem_map.mpr ⟨(s / ((p : Int) + 1)).toNat, ran x0 (by omega), ?_⟩)
        rw [show (((s / ((p : Int) + 1)).toNat : Nat) : Int) = s / ((p : Int) + 1) by omega]
        unfold sOver
        rw [mod_of a j0 (by omega)]
        omega
theorem setL_all {p : Nat} (h : Pr p) {n s : Int} (n0 : 0 ≤ n) (n1 : n ≤ lstZ p) (m : s ∈ setL p n) : 0 ≤ s ∧ s ≤ lstZ p ∧ InS p s n := by
  have p2 := h.two
  obtain ⟨⟨m0, m1, i0, i1, mi⟩, en⟩ := co n0 n1
  have cn := co_eq p n
  have lp : 0 ≤ lstZ p := by unfold lstZ; exact Int.mul_nonneg (by omega) (by omega)
  unfold setL at m
  by_cases c1 : n = lstZ p
  · rw [if_pos c1] at m
    rcases List.mem_append.mp m with m | m
    · obtain ⟨x, hx, rfl⟩ := List.mem_map.mp m
      have hx := List.mem_range.mp hx
      obtain ⟨b0, b1⟩ := mk_top (p := p) (x := x) (j := p) (by omega) (by omega) (by omega) (by omega)
      refine ⟨b0, b1, inS_mk (by omega) (by omega) ?_⟩
      unfold inc
      rw [if_pos (en.mp c1)]; exact .inr rfl
    · rw [List.mem_singleton.mp m]
      refine ⟨lp, Int.le_refl _, ?_⟩
      unfold InS inc
      rw [if_pos (en.mp c1), (lst_co p).1]; exact .inl rfl
  rw [if_neg c1] at m
  have mp : n / ((p : Int) + 1) ≤ (p : Int) - 1 := by
    have : n / ((p : Int) + 1) ≠ p := fun z => c1 (en.mpr z)
    omega
  by_cases c2 : uprB p n = true
  · rw [if_pos c2] at m
    have hi := (upr_iff c1).mp c2
    rcases List.mem_append.mp m with m | m
    · obtain ⟨j, hj, rfl⟩ := List.mem_map.mp m
      have hj := List.mem_range.mp hj
      obtain ⟨b0, b1⟩ := mk_top (p := p) (j := (j : Int)) m0 mp (by omega) (by omega)
      have e : n + (j : Int) = n / ((p : Int) + 1) * ((p : Int) + 1) + (j : Int) := by omega
      rw [e]
      refine ⟨b0, b1, inS_mk (by omega) (by omega) ?_⟩
      unfold inc
      rw [if_neg (by omega), if_neg (by omega), if_neg (by omega), if_pos hi]
    · rw [List.mem_singleton.mp m]
      refine ⟨lp, Int.le_refl _, ?_⟩
      unfold InS inc
      rw [if_neg (by omega), (lst_co p).1, if_pos rfl]; exact hi
  · rw [if_neg c2] at m
    have hi : n % ((p : Int) + 1) ≠ 0 := fun z => c2 ((upr_iff c1).mpr z)
    rcases List.mem_append.mp m with m | m
    · obtain ⟨x, hx, rfl⟩ := List.mem_map.mp m
      have hx := List.mem_range.mp hx
      have a := over_in h n0 n1 c1 hi (x := x) (by omega) (by omega)
      exact ⟨a.1, a.2.1, a.2.2.1⟩
    · rw [List.mem_singleton.mp m]
      have a := far_in n0 n1 c1
      exact ⟨a.1, a.2.1, a.2.2.1⟩
/-- of a list without doubles just one is in both -/
theorem filt_one {l : List Int} (nd : l.Nodup) {g : Int → Bool} {z : Int} (m : z ∈ l) (gz : g z = true) (one : ∀ y ∈ l, g y = true → y = z) : l.filter g = [z] := by
  induction l with
  | nil => simp at m
  | cons a l ih =>
    obtain ⟨n1, n2⟩ := List.nodup_cons.mp nd
    rcases List.mem_cons.mp m with e | m
    · subst e
      rw [List.filter_cons_of_pos gz, List.filter_eq_nil_iff.mpr]
      intro y hy gy
      exact n1 (one y (List.mem_cons_of_mem _ hy) gy ▸ hy)
    · have na : ¬ g a = true := fun gy => n1 (one a (List.mem_cons_self ..) gy ▸ m)
      rw [List.filter_cons_of_neg na]
      exact ih n2 m (fun y hy => one y (List.mem_cons_of_mem _ hy))
/-! ### primes, as the law finds them -/
def isP (n : Nat) : Bool := (List.range 98).all fun i => !(decide ((i + 2) * (i + 2) ≤ n) && decide (n % (i + 2) = 0))
theorem pr_of {n : Nat} (h2 : 2 ≤ n) (ht : n ≤ 9973) (h : isP n = true) : Pr n := by
  refine ⟨h2, ht, fun d d2 dd dv => ?_⟩
  have d99 : d < 100 := by
    rcases Nat.lt_or_ge d 100 with c | c
    · exact c
    · have := Nat.mul_le_mul c c
      omega
  unfold isP at h
  have := List.all_eq_true.mp h (d - 2) (List.mem_range.mpr (by omega))
  rw [show d - 2 + 2 = d by omega, decide_eq_true dd, decide_eq_true (Nat.mod_eq_zero_of_dvd dv)] at this
  simp at this
def chainP : List Nat := [37, 73, 109, 139, 173, 211, 241, 277, 313, 349, 383, 421, 457, 491, 523, 557, 593, 631, 661, 691, 727, 761, 797, 829, 863, 887, 919, 953, 991, 1021, 1051, 1087, 1123, 1153, 1187, 1223, 1259, 1297, 1327, 1361, 1399, 1433, 1471, 1499, 1531, 1567, 1601, 1637, 1669, 1699, 1733, 1759, 1789, 1823, 1861, 1889, 1913, 1951, 1987, 2017, 2053, 2089, 2113, 2143, 2179, 2213, 2251, 2287, 2311, 2347, 2383, 2417, 2447, 2477, 2503, 2539, 2557, 2593, 2621, 2659, 2693, 2731, 2767, 2803, 2837, 2861, 2897, 2927, 2963, 3001, 3037, 3067, 3089, 3121, 3137, 3169, 3203, 3229, 3259, 3271, 3307, 3343, 3373, 3407, 3433, 3469, 3499, 3533, 3571, 3607, 3643, 3677, 3709, 3739, 3769, 3803, 3833, 3863, 3889, 3923, 3947, 3967, 4003, 4027, 4057, 4093, 4129, 4159, 4177, 4211, 4243, 4273, 4297, 4327, 4363, 4397, 4423, 4457, 4493, 4523, 4561, 4597, 4621, 4657, 4691, 4729, 4759, 4793, 4831, 4861, 4889, 4919, 4957, 4993, 5023, 5059, 5087, 5119, 5153, 5189, 5227, 5261, 5297, 5333, 5351, 5387, 5419, 5449, 5483, 5521, 5557, 5591, 5623, 5659, 5693, 5717, 5749, 5783, 5821, 5857, 5881, 5903, 5939, 5953, 5987, 6011, 6047, 6079, 6113, 6151, 6173, 6211, 6247, 6277, 6311, 6343, 6379, 6397, 6427, 6451, 6481, 6491, 6529, 6563, 6599, 6637, 6673, 6709, 6737, 6763, 6793, 6829, 6863, 6899, 6917, 6949, 6983, 7019, 7057, 7079, 7109, 7129, 7159, 7193, 7229, 7253, 7283, 7321, 7351, 7369, 7393, 7417, 7451, 7489, 7523, 7561, 7591, 7621, 7649, 7687, 7723, 7759, 7793, 7829, 7867, 7901, 7937, 7963, 7993, 8017, 8053, 8089, 8123, 8161, 8191, 8221, 8243, 8273, 8311, 8329, 8363, 8389, 8423, 8461, 8467, 8501, 8539, 8573, 8609, 8647, 8681, 8719, 8753, 8783, 8821, 8849, 8887, 8923, 8951, 8971, 9007, 9043, 9067, 9103, 9137, 9173, 9209, 9241, 9277, 9311, 9349, 9377, 9413, 9439, 9473, 9511, 9547, 9551, 9587, 9623, 9661, 9697, 9733, 9769, 9803, 9839, 9871, 9907, 9941, 9973]
def stepsOk : Nat → List Nat → Bool
  | c, [] => decide (9973 ≤ c)
  | c, q :: r => decide (q < c + 40) && decide (q ≤ 9973) && isP q && stepsOk q r
theorem chain_ok : stepsOk 1 chainP = true := by decide +kernel
theorem cover : ∀ (l : List Nat) (c n : Nat), stepsOk c l = true → c < n → n ≤ 9973 → ∃ q, n ≤ q ∧ q < n + 40 ∧ isP q = true ∧ q ≤ 9973
  | [], c, n, h, h1, h2 => by
    unfold stepsOk at h
    have := of_decide_eq_true h
    omega
  | q :: r, c, n, h, h1, h2 => by
    unfold stepsOk at h
    simp only [Bool.and_eq_true, decide_eq_true_eq] at h
    obtain ⟨⟨⟨a, t⟩, b⟩, d⟩ := h
    rcases Nat.lt_or_ge q n with k | k
    · exact cover r q n d k h2
    · exact ⟨q, k, by omega, b, t⟩
theorem next_prime {n : Nat} (h : 2 ≤ n) (ht : n ≤ 9973) : ∃ q, n ≤ q ∧ q < n + 40 ∧ isP q = true ∧ q ≤ 9973 := cover chainP 1 n chain_ok (by omega) ht
end G0
namespace G0
theorem up_snoc {f : Nat → Int} {p : Nat} {z : Int} (mono : ∀ x y, x < y → y < p → f x < f y) (lt : ∀ x < p, f x < z) : ((List.range p).map f ++ [z]).Pairwise (· < ·) := by
  refine List.pairwise_append.mpr ⟨?_, by simp, fun a ha b hb => ?_⟩
  · refine List.pairwise_map.mpr (List.Pairwise.imp_of_mem (fun {x y} hx hy hxy => mono x y hxy (List.mem_range.mp hy)) List.pairwise_lt_range)
  · obtain ⟨x, hx, rfl⟩ := List.mem_map.mp ha
    rw [show b = z by simpa using hb]
    exact lt x (List.mem_range.mp hx)
theorem lstZ_eq (p : Nat) : lstZ p = (p : Int) * p + p := by unfold lstZ; rw [Int.mul_add, Int.mul_one]
theorem lstZ_pos (p : Nat) : 0 ≤ lstZ p := by unfold lstZ; exact Int.mul_nonneg (by omega) (by omega)
theorem pp_le {p : Nat} (h : p ≤ 9973) : (p : Int) * p ≤ 99460729 := by
  have := Nat.mul_le_mul h h
  have e : ((p * p : Nat) : Int) = (p : Int) * p := Int.natCast_mul _ _
  omega
theorem setL_up1 (p : Nat) : ((List.range p).map (fun x : Nat => (x : Int) * ((p : Int) + 1) + p) ++ [lstZ p]).Pairwise (· < ·) := by
  refine up_snoc (fun x y h _ => ?_) (fun x hx => ?_)
  · have := Int.mul_lt_mul_of_pos_right (show (x : Int) < y by omega) (show (0 : Int) < (p : Int) + 1 by omega)
    omega
  · have := Int.mul_le_mul_of_nonneg_right (show (x : Int) + 1 ≤ p by omega) (show (0 : Int) ≤ (p : Int) + 1 by omega)
    rw [Int.add_mul] at this
    unfold lstZ
    omega
theorem setL_up2 {p : Nat} {n : Int} (n0 : 0 ≤ n) (n1 : n ≤ lstZ p) (c1 : n ≠ lstZ p) (c2 : uprB p n = true) : ((List.range p).map (fun j : Nat => n + (j : Int)) ++ [lstZ p]).Pairwise (· < ·) := by
  obtain ⟨⟨m0, m1, i0, i1, mi⟩, en⟩ := co n0 n1
  have cn := co_eq p n
  have mp : n / ((p : Int) + 1) ≤ (p : Int) - 1 := by
    have : n / ((p : Int) + 1) ≠ p := fun z => c1 (en.mpr z)
    omega
  have hi := (upr_iff c1).mp c2
  refine up_snoc (fun x y h _ => by omega) (fun x hx => ?_)
  have b := (mk_top (p := p) (j := (p : Int)) m0 mp (by omega) (by omega)).2
  omega
theorem up_of {l : List Int} (nd : l.Nodup) (le : l.Pairwise (· ≤ ·)) : l.Pairwise (· < ·) :=
  (List.Pairwise.and le nd).imp fun h => by omega
/-- an inverse there is -/
theorem inv_ex {p : Nat} (h : Pr p) {a b : Int} (a0 : 0 ≤ a) (a1 : a ≤ p) (b0 : 0 ≤ b) (b1 : b ≤ p) (c : a < p ∨ b < p) (c2 : a ≠ 0 ∨ b ≠ 0) : ∃ r : Int, (a ≠ b → -(p : Int) < a - b → a - b < p → (p : Int) ∣ (a - b) * r - 1) := by
  refine ⟨_, fun ne h1 h2 => inv_end h (n := a - b) (fun d => ne (by have := small_eq d h1 h2; omega)) (f := ((a - b) % p).toNat ^ (p - 2) % p) (Nat.mod_mod _ _)⟩
end G0
namespace G0
/-! ### the set in which two seats stand -/
theorem two_one {p : Nat} (h : Pr p) {s t n k : Int} (s0 : 0 ≤ s) (s1 : s ≤ lstZ p) (t0 : 0 ≤ t) (t1 : t ≤ lstZ p) (n0 : 0 ≤ n) (n1 : n ≤ lstZ p) (k0 : 0 ≤ k) (k1 : k ≤ lstZ p) (ne : s ≠ t)
    (a : InS p s n) (b : InS p s k) (c : InS p t n) (d : InS p t k) : n = k := by
  by_cases e : n = k
  · exact e
  · exact absurd (InS.one h s0 s1 t0 t1 n0 n1 k0 k1 e a b c d) ne
theorem far_iff {p : Nat} {s : Int} : farB p s = true ↔ s = lstZ p ∨ s % ((p : Int) + 1) = p := by
  unfold farB; simp
theorem thr_in {p : Nat} (h : Pr p) {F N : Int} (f0 : 0 ≤ F) (f1 : F ≤ lstZ p) (n0 : 0 ≤ N) (n1 : N ≤ lstZ p) (fF : farB p F = true) (nN : ¬ farB p N = true) :
    0 ≤ sThr p F N ∧ sThr p F N ≤ lstZ p ∧ InS p F (sThr p F N) ∧ InS p N (sThr p F N) := by
  have p2 := h.two
  obtain ⟨⟨x0, x1, j0, j1, xj⟩, es⟩ := co n0 n1
  obtain ⟨⟨m0, m1, i0, i1, mi⟩, en⟩ := co f0 f1
  have nl : N ≠ lstZ p := fun z => nN (far_iff.mpr (.inl z))
  have nj : N % ((p : Int) + 1) ≠ p := fun z => nN (far_iff.mpr (.inr z))
  have xp : N / ((p : Int) + 1) < p := by
    have : N / ((p : Int) + 1) ≠ p := fun z => nl (es.mpr z)
    omega
  have key : ∀ {n : Int}, 0 ≤ n → n ≤ lstZ p → n ≠ lstZ p → sThr p F N = n → farS p n = F → 0 ≤ n ∧ n ≤ lstZ p ∧ InS p F n ∧ InS p N n := fun {n} a0 a1 a2 a3 a4 => by
    refine ⟨a0, a1, (lies_iff h f0 f1 a0 a1).mp ?_, (lies_iff h n0 n1 a0 a1).mp ?_⟩
    · unfold liesB
      rw [if_neg a2, if_pos fF, a4]; simp
    · unfold liesB
      rw [if_neg a2, if_neg nN, a4, a3]; simp
  by_cases c : F = lstZ p
  · have e : sThr p F N = N / ((p : Int) + 1) * ((p : Int) + 1) + 0 := by unfold sThr; rw [if_pos c]; omega
    obtain ⟨b0, b1⟩ := mk_top (p := p) (j := 0) x0 (by omega) (by omega) (by omega)
    obtain ⟨e1, e2⟩ := co_mk (p := p) (x := N / ((p : Int) + 1)) (j := 0) (by omega) (by omega)
    have ne : N / ((p : Int) + 1) * ((p : Int) + 1) + 0 ≠ lstZ p := fun z => by
      rw [z, (lst_co p).1] at e1
      omega
    rw [e]
    exact key b0 b1 ne e ((farS_up ne e2).trans c.symm)
  · have mp : F / ((p : Int) + 1) < p := by
      have : F / ((p : Int) + 1) ≠ p := fun z => c (en.mpr z)
      omega
    have hj := (far_iff.mp fF).resolve_left c
    have t0 := Int.emod_nonneg (N % ((p : Int) + 1) - N / ((p : Int) + 1) * (F / ((p : Int) + 1) - N / ((p : Int) + 1)) - 1) (show (p : Int) ≠ 0 by omega)
    have t1 := Int.emod_lt_of_pos (N % ((p : Int) + 1) - N / ((p : Int) + 1) * (F / ((p : Int) + 1) - N / ((p : Int) + 1)) - 1) (show (0 : Int) < p by omega)
    have e : sThr p F N = F / ((p : Int) + 1) * ((p : Int) + 1) + ((N % ((p : Int) + 1) - N / ((p : Int) + 1) * (F / ((p : Int) + 1) - N / ((p : Int) + 1)) - 1) % p + 1) := by unfold sThr; rw [if_neg c]; omega
    generalize (N % ((p : Int) + 1) - N / ((p : Int) + 1) * (F / ((p : Int) + 1) - N / ((p : Int) + 1)) - 1) % p = i at *
    obtain ⟨b0, b1⟩ := mk_top (p := p) (j := i + 1) m0 (by omega) (by omega) (by omega)
    obtain ⟨e1, e2⟩ := co_mk (p := p) (x := F / ((p : Int) + 1)) (j := i + 1) (by omega) (by omega)
    have ne : F / ((p : Int) + 1) * ((p : Int) + 1) + (i + 1) ≠ lstZ p := fun z => by
      rw [z, (lst_co p).1] at e1
      omega
    rw [e]
    refine key b0 b1 ne e ?_
    have cf := co_eq p F
    rw [farS_sl (by rw [e2]; omega), e1]
    omega
theorem far_last {p : Nat} {s : Int} (f0 : 0 ≤ s) (f1 : s ≤ lstZ p) (f : farB p s = true) : InS p s (lstZ p) := by
  unfold InS inc
  rw [(lst_co p).1, if_pos rfl]
  exact (far_iff.mp f).imp (co f0 f1).2.mp id
/-- two near seats over one place -/
theorem over_same {p : Nat} {s t : Int} (s0 : 0 ≤ s) (s1 : s ≤ lstZ p) (t0 : 0 ≤ t) (t1 : t ≤ lstZ p) (ns : ¬ farB p s = true) (nt : ¬ farB p t = true) (e : s / ((p : Int) + 1) = t / ((p : Int) + 1)) : InS p t (sThr p (lstZ p) s) := by
  obtain ⟨⟨x0, x1, j0, j1, xj⟩, es⟩ := co s0 s1
  obtain ⟨⟨y0, y1, k0, k1, yk⟩, et⟩ := co t0 t1
  have nl : t / ((p : Int) + 1) ≠ p := fun z => nt (far_iff.mpr (.inl (et.mpr z)))
  have nj : t % ((p : Int) + 1) ≠ p := fun z => nt (far_iff.mpr (.inr z))
  have e' : sThr p (lstZ p) s = s / ((p : Int) + 1) * ((p : Int) + 1) + 0 := by unfold sThr; rw [if_pos rfl]; omega
  obtain ⟨e1, e2⟩ := co_mk (p := p) (x := s / ((p : Int) + 1)) (j := 0) (by omega) (by omega)
  unfold InS inc
  rw [e', e1, e2, if_neg (by omega), if_neg nl, if_neg nj, if_pos rfl]
  exact e.symm
/-- two near seats over unlike places -/
theorem over_two {p : Nat} (h : Pr p) {s t r : Int} (s0 : 0 ≤ s) (s1 : s ≤ lstZ p) (t0 : 0 ≤ t) (t1 : t ≤ lstZ p) (ns : ¬ farB p s = true) (nt : ¬ farB p t = true)
    (hr : (p : Int) ∣ (s / ((p : Int) + 1) - t / ((p : Int) + 1)) * r - 1) {m : Int} (hm : m = ((s % ((p : Int) + 1) - t % ((p : Int) + 1)) * r + s / ((p : Int) + 1) + t / ((p : Int) + 1)) % p) :
    0 ≤ m * ((p : Int) + 1) + p ∧ m * ((p : Int) + 1) + p ≤ lstZ p ∧ farB p (m * ((p : Int) + 1) + p) = true ∧ InS p t (sThr p (m * ((p : Int) + 1) + p) s) := by
  have p2 := h.two
  have m0 : 0 ≤ m := by rw [hm]; exact Int.emod_nonneg _ (by omega)
  have m1 : m < p := by rw [hm]; exact Int.emod_lt_of_pos _ (by omega)
  obtain ⟨b0, b1⟩ := mk_top (p := p) (j := (p : Int)) m0 (by omega) (by omega) (by omega)
  obtain ⟨e1, e2⟩ := co_mk (p := p) (x := m) (j := p) (by omega) (by omega)
  refine ⟨b0, b1, far_iff.mpr (.inr e2), ?_⟩
  obtain ⟨⟨x0, x1, j0, j1, xj⟩, es⟩ := co s0 s1
  obtain ⟨⟨y0, y1, k0, k1, yk⟩, et⟩ := co t0 t1
  have nl : t / ((p : Int) + 1) ≠ p := fun z => nt (far_iff.mpr (.inl (et.mpr z)))
  have nj : t % ((p : Int) + 1) ≠ p := fun z => nt (far_iff.mpr (.inr z))
  have nlF : m * ((p : Int) + 1) + p ≠ lstZ p := fun z => by
    rw [z, (lst_co p).1] at e1
    omega
  have e : sThr p (m * ((p : Int) + 1) + p) s = m * ((p : Int) + 1) + ((s % ((p : Int) + 1) - s / ((p : Int) + 1) * (m - s / ((p : Int) + 1)) - 1) % p + 1) := by
    unfold sThr
    rw [if_neg nlF, e1]; omega
  have u0 := Int.emod_nonneg (s % ((p : Int) + 1) - s / ((p : Int) + 1) * (m - s / ((p : Int) + 1)) - 1) (show (p : Int) ≠ 0 by omega)
  have u1 := Int.emod_lt_of_pos (s % ((p : Int) + 1) - s / ((p : Int) + 1) * (m - s / ((p : Int) + 1)) - 1) (show (0 : Int) < p by omega)
  have ud := mod_dvd p (s % ((p : Int) + 1) - s / ((p : Int) + 1) * (m - s / ((p : Int) + 1)) - 1)
  have md : (p : Int) ∣ (s % ((p : Int) + 1) - t % ((p : Int) + 1)) * r + s / ((p : Int) + 1) + t / ((p : Int) + 1) - m := by rw [hm]; exact mod_dvd p _
  rw [e]
  generalize (s % ((p : Int) + 1) - s / ((p : Int) + 1) * (m - s / ((p : Int) + 1)) - 1) % p = i at *
  obtain ⟨g1, g2⟩ := co_mk (p := p) (x := m) (j := i + 1) (by omega) (by omega)
  unfold InS inc
  rw [g1, g2, if_neg (by omega), if_neg nl, if_neg nj, if_neg (by omega)]
  generalize s / ((p : Int) + 1) = x at *
  generalize s % ((p : Int) + 1) = j at *
  generalize t / ((p : Int) + 1) = y at *
  generalize t % ((p : Int) + 1) = k at *
  -- (x - y) (m - x - y) is j - k
  have t1 : (p : Int) ∣ (x - y) * ((j - k) * r + x + y - m) := Int.dvd_mul_of_dvd_right md
  have t2 : (p : Int) ∣ (j - k) * ((x - y) * r - 1) := Int.dvd_mul_of_dvd_right hr
  have t3 := Int.dvd_sub t2 t1
  have a1 : (j - k) * ((x - y) * r - 1) = (j - k) * ((x - y) * r) - (j - k) := by rw [Int.mul_sub, Int.mul_one]
  have a2 : (x - y) * ((j - k) * r + x + y - m) = (x - y) * ((j - k) * r) + (x - y) * (x + y - m) := by
    rw [← Int.mul_add]; exact congrArg _ (by omega)
  have a3 : (j - k) * ((x - y) * r) = (x - y) * ((j - k) * r) := Int.mul_left_comm _ _ _
  have a4 : (x - y) * (x + y - m) = y * (m - y) - x * (m - x) := by
    simp only [Int.sub_mul, Int.mul_sub, Int.mul_add]
    rw [Int.mul_comm y x]
    omega
  rw [a1, a2, a3, a4] at t3
  have t4 := Int.dvd_add t3 ud
  generalize (x - y) * ((j - k) * r) = z at *
  rw [show z - (j - k) - (z + (y * (m - y) - x * (m - x))) + (j - x * (m - x) - 1 - i) = -(y * (m - y) + (i + 1) - k) by omega] at t4
  exact Int.dvd_neg.mp t4
end G0
namespace G0
open PySem PySem.Spec PyProof.Rows L2
section
variable {P : Program} {w : World} {K : PySem.W.Frag} {mg : Str → Option Value} {base : Heap}
/-! ### what is never reached -/
def tDead : TS := fun _ _ _ => False
theorem ps_dead {X : Cx} {st : Stmt} : PS X st tDead := ⟨fun _ _ _ _ _ _ h => h.elim⟩
theorem lc_yes {te : TE} {σ : L2.St} {H : Hp} {Q : VK} {B : Hp → Prop} (h : te σ H Q) : tYes σ H (fun b H3 => if b = true then te σ H3 Q else B H3) := by
  show (if true = true then te σ H Q else B H)
  exact iteT h
/-! ### is_below, look_at_seat -/
def spBel : Sp := fun vs H Q _ => ∃ x n : Int, vs = [.int x, .int n] ∧ Q (.bl (decide (0 ≤ x) && decide (x < n))) H
theorem sc_is_below : FnScope ["thing", "top"] ["thing", "top"] (defScope s_is_below) :=
  ⟨rfl, rfl, rfl, by decide +kernel, rfl, by decide +kernel, by decide +kernel⟩
theorem ok_bel (F : Fn K mg "is_below" s_is_below) (T : BlF mg) : Cal P w K mg base "is_below" 1 ["thing", "top"] spBel := by
  refine cal_of F sc_is_below
    (fun _ _ _ _ _ _ us hl => match us, hl with | [_, _], _ => rfl) ?_ ?_
  · rintro vs H Q E ⟨x, n, rfl, _⟩
    rfl
  rintro f cdv A outer s H vs Q E free hr ⟨x, n, rfl, q⟩
  refine ⟨_, (pss_one (ps_ret (pe_and (pe_callB call_isi (by rfl) T.isinstance (by decide +kernel) (pa_cons (pv 0) (pa_cons (pe_bltn (v := .ty "int") (by rfl) T.int (by decide +kernel) rfl) pa_nil))) (pe_and (pe_not (pe_callB call_isi (by rfl) T.isinstance (by decide +kernel) (pa_cons (pv 0) (pa_cons (pe_bltn (v := .ty "bool") (by rfl) T.bool (by decide +kernel) rfl) pa_nil)))) (pe_one (pe_chain op_le op_lt pe_int (pv 0) (pv 1))))))), ?_⟩
  refine ⟨_, rfl, _, .ty "int", _, _, _, rfl, .ty _, .base (.int x), kit_ty (r := true) (by decide +kernel), _, rfl, iteT' rfl ?_⟩
  refine ⟨_, rfl, _, .ty "bool", _, _, _, rfl, .ty _, .base (.int x), kit_ty (r := false) (by decide +kernel), _, rfl, _, rfl, iteT' rfl ?_⟩
  refine ⟨_, rfl, _, _, rfl, rfl, _, rfl, ?_⟩
  refine ite2 (fun c => ⟨_, rfl, _, _, rfl, rfl, ?_⟩) (fun c => ?_)
  · have c' : decide (0 ≤ x) = true := c
    rw [c'] at q
    exact q
  · have c' : decide (0 ≤ x) = false := by simpa using c
    rw [c'] at q
    exact q
def spLook : Sp := fun vs H Q _ => ∃ x n : Int, vs = [.int x, .int n] ∧ 0 ≤ x ∧ x < n ∧ Q .non H
theorem sc_look_at_seat : FnScope ["seat", "seats"] ["seat", "seats"] (defScope s_look_at_seat) :=
  ⟨rfl, rfl, rfl, by decide +kernel, rfl, by decide +kernel, by decide +kernel⟩
theorem ok_look (F : Fn K mg "look_at_seat" s_look_at_seat) (Cis_below : Cal P w K mg base "is_below" 1 ["thing", "top"] spBel) : Cal P w K mg base "look_at_seat" 2 ["seat", "seats"] spLook := by
  refine cal_of F sc_look_at_seat
    (fun _ _ _ _ _ _ us hl => match us, hl with | [_, _], _ => rfl) ?_ ?_
  · rintro vs H Q E ⟨x, n, rfl, _⟩
    rfl
  rintro f cdv A outer s H vs Q E free hr ⟨x, n, rfl, x0, x1, q⟩
  refine ⟨_, (pss_one (ps_if (pt_not (pt_val (pe_cal Cis_below free (hr.mono (by decide)) (pa_cons (pv 0) (pa_cons (pv 1) pa_nil)))))
    (pss_one ps_dead)
    pss_nil)), ?_⟩
  refine ⟨_, rfl, _, rfl, x, n, rfl, _, rfl, ?_⟩
  refine iteF' (by simp [x0, x1]) ?_
  exact q
/-! ### numbers of a plane -/
structure Bl51 (mg : Str → Option Value) : Prop extends BlF mg where
  any : mg "any" = none
  divmod : mg "divmod" = none
  isq : mg "isqrt" = some (.builtin "math.isqrt")
  top : ∃ t, mg "GREATEST" = some (.int 9973 t)
def rIsq : List V → Hp → VK → Prop := fun vs H Q => ∃ n : Nat, vs = [.int (n : Int)] ∧ n < 2 ^ 64 ∧ ∀ r : Nat, r * r ≤ n → n < (r + 1) * (r + 1) → Q (.int (r : Int)) H
theorem cr_isqrt {X : Cx} : CallR X (.builtin "math.isqrt") rIsq := by
  intro pins s σ H vs us Q I r h
  obtain ⟨n, rfl, hn, q⟩ := h
  obtain ⟨u, rfl, rx⟩ := vals1 r
  obtain ⟨t, rfl⟩ := rx
  have sp := PySem.Float64.isqrt_spec n
  exact PySem.W.mg_isqrt (by omega) (by omega) ⟨.int _, H, I.tok _, ⟨_, rfl⟩, q _ sp.1 sp.2⟩
def spLast : Sp := fun vs H Q _ => ∃ p : Nat, vs = [.int (p : Int)] ∧ p ≤ 9973 ∧ Q (.int (lstZ p)) H
theorem sc_last : FnScope ["p"] ["p"] (defScope s_last) :=
  ⟨rfl, rfl, rfl, by decide +kernel, rfl, by decide +kernel, by decide +kernel⟩
theorem ok_last (F : Fn K mg "_last" s_last) : Cal P w K mg base "_last" 1 ["p"] spLast := by
  refine cal_of F sc_last
    (fun _ _ _ _ _ _ us hl => match us, hl with | [_], _ => rfl) ?_ ?_
  · rintro vs H Q E ⟨p, rfl, _⟩
    rfl
  rintro f cdv A outer s H vs Q E free hr ⟨p, rfl, top, q⟩
  refine ⟨_, (pss_one (ps_ret (pe_op op_mul (pv 0) (pe_op op_add (pv 0) pe_int)))), ?_⟩
  exact ⟨_, rfl, _, rfl, _, _, rfl, rfl, _, _, rfl, rfl, .inl ⟨by omega, by omega⟩, q⟩
def spLP : Sp := fun vs H Q _ => ∃ p : Nat, vs = [.int (p : Int)] ∧ Pr p ∧ ∀ H', Same H H' → Q .non H'
theorem sc_look_at_prime : FnScope ["p", "step"] ["p"] (defScope s_look_at_prime) :=
  ⟨rfl, rfl, rfl, by decide +kernel, rfl, by decide +kernel, by decide +kernel⟩
theorem ok_lp (F : Fn K mg "_look_at_prime" s_look_at_prime) (T : Bl51 mg) (Cis_below : Cal P w K mg base "is_below" 1 ["thing", "top"] spBel) : Cal P w K mg base "_look_at_prime" 2 ["p"] spLP := by
  obtain ⟨tg, hG⟩ := T.top
  refine cal_of F sc_look_at_prime
    (fun _ _ _ _ _ _ us hl => match us, hl with | [_], _ => rfl) ?_ ?_
  · rintro vs H Q E ⟨p, rfl, _⟩
    rfl
  rintro f cdv A outer s H vs Q E free hr ⟨p, rfl, hp, q⟩
  have p2 := hp.two
  have pt := hp.top
  refine ⟨_, (pss_one (ps_if (PW.pt (pw_or (pt_not (pt_val (pe_cal Cis_below free (hr.mono (by decide)) (pa_cons (pv 0) (pa_cons (pe_op op_add (pe_glob (v := .int 9973) (by rfl) hG ⟨_, rfl⟩) pe_int) pa_nil))))) (pw_or (pt_cmpR op_lt (pv 0) pe_int (nomark _)) (pw_or1 (pt_val (pe_callB (cr_any (by rfl)) (by rfl) T.any (by decide +kernel) (pa_cons (pe_lc (own := [("step", 1)]) (g := gName 1) (tt := tYes) (by rfl) sc_look_at_prime.nd (pi_range2 (by rfl) T.range (pa_cons pe_int (pa_cons (pe_op op_add (pe_callBfun cr_isqrt (by rfl) T.isq (pa_cons (pv 0) pa_nil)) pe_int) pa_nil))) (blkOk_by (N := ["p", "step"]) (sc := defScope s_look_at_prime) (by decide +kernel)) (fun _ _ _ _ _ => pg_name (i := 1) sc_look_at_prime.nd rfl (Or.inl rfl)) (fun _ _ _ _ _ => pts_nil) (fun _ _ _ _ _ => (pe_cmpR op_eq (pe_op op_mod (pv 0) (pv 1)) pe_int (nomark _)))) pa_nil)))))))
    (pss_one ps_dead)
    pss_nil)), ?_⟩
  refine ⟨_, rfl, _, _, rfl, rfl, p, 9973 + 1, rfl, _, rfl, ?_⟩
  refine iteF' (by simp; omega) ?_
  refine ⟨_, rfl, _, _, rfl, rfl, _, rfl, ?_⟩
  refine iteF' (by simp; omega) ?_
  refine ⟨_, rfl, p, rfl, by omega, fun r r1 r2 => ⟨_, _, rfl, rfl, _, _, rfl, ?_, fun D hD => ?_⟩⟩
  · have : r < 2 ^ 32 := by
      rcases Nat.lt_or_ge r (2 ^ 32) with c | c
      · exact c
      · have := Nat.mul_le_mul c c
        omega
    exact ⟨by omega, by omega, by omega, by omega⟩
  refine lc_range (lo := 2) (n := (((r : Nat) : Int) + 1 - 2).toNat) (fun i G => Same H G ∧ G D = some (.lst ((List.replicate i false).map V.bl))) ⟨same_upd hD, upd_same⟩ ?_ ?_
  · rintro i G hi ⟨sG, kD⟩
    have li : i + 2 ≤ r := by omega
    have rr : r ≤ 99 := by
      rcases Nat.lt_or_ge r 100 with c | c
      · omega
      · have := Nat.mul_le_mul c c
        omega
    have nd : ¬ ((p : Int) % (2 + (i : Int)) = 0) := fun z => by
      have d := Int.dvd_of_emod_eq_zero z
      have e : (2 + (i : Int)) = ((2 + i : Nat) : Int) := by omega
      rw [e] at d
      exact hp.no (2 + i) (by omega) (Nat.le_trans (Nat.mul_le_mul (show 2 + i ≤ r by omega) (show 2 + i ≤ r by omega)) r1) (Int.natCast_dvd_natCast.mp d)
    refine ⟨rfl, lc_yes ?_⟩
    refine ⟨_, rfl, _, rfl, _, _, rfl, rfl, (by show (0 : Int) < 2 + (i : Int); omega), rfl, _, kD, ?_, fun c o e => ?_, ?_⟩
    · rw [List.length_map, List.length_replicate]
      exact Nat.lt_of_lt_of_le (show i < 100 by omega) (by decide)
    · rw [upd_ne (ne_of_none e hD)]
      exact sG _ _ e
    · rw [dec_ii, decide_eq_false nd, List.replicate_succ', List.map_append]
      exact upd_same
  rintro G ⟨sG, kD⟩
  refine ⟨D, _, rfl, SqL.of kD, _, rfl, ?_⟩
  refine iteF' (by rw [List.any_replicate]; simp) ?_
  exact q _ sG
def spLS : Sp := fun vs H Q _ => ∃ (p : Nat) (n : Int), vs = [.int (p : Int), .int n] ∧ p ≤ 9973 ∧ 0 ≤ n ∧ n ≤ lstZ p ∧ Q .non H
theorem sc_u_look_at_seat : FnScope ["p", "seat"] ["p", "seat"] (defScope s_u_look_at_seat) :=
  ⟨rfl, rfl, rfl, by decide +kernel, rfl, by decide +kernel, by decide +kernel⟩
theorem ok_ls (F : Fn K mg "_look_at_seat" s_u_look_at_seat) (C_last : Cal P w K mg base "_last" 1 ["p"] spLast) (Clook_at_seat : Cal P w K mg base "look_at_seat" 2 ["seat", "seats"] spLook) : Cal P w K mg base "_look_at_seat" 3 ["p", "seat"] spLS := by
  refine cal_of F sc_u_look_at_seat
    (fun _ _ _ _ _ _ us hl => match us, hl with | [_, _], _ => rfl) ?_ ?_
  · rintro vs H Q E ⟨p, n, rfl, _⟩
    rfl
  rintro f cdv A outer s H vs Q E free hr ⟨p, n, rfl, pt, n0, n1, q⟩
  refine ⟨_, (pss_one (ps_expr (pe_cal Clook_at_seat free (hr.mono (by decide)) (pa_cons (pv 1) (pa_cons (pe_op op_add (pe_cal C_last free (hr.mono (by decide)) (pa_cons (pv 0) pa_nil)) pe_int) pa_nil))))), ?_⟩
  exact ⟨_, rfl, _, rfl, p, rfl, pt, _, _, rfl, rfl, n, _, rfl, n0, by omega, q⟩
theorem sc_look_at_set : FnScope ["p", "number"] ["p", "number"] (defScope s_look_at_set) :=
  ⟨rfl, rfl, rfl, by decide +kernel, rfl, by decide +kernel, by decide +kernel⟩
theorem ok_lset (F : Fn K mg "_look_at_set" s_look_at_set) (C_last : Cal P w K mg base "_last" 1 ["p"] spLast) (Cis_below : Cal P w K mg base "is_below" 1 ["thing", "top"] spBel) : Cal P w K mg base "_look_at_set" 2 ["p", "number"] spLS := by
  refine cal_of F sc_look_at_set
    (fun _ _ _ _ _ _ us hl => match us, hl with | [_, _], _ => rfl) ?_ ?_
  · rintro vs H Q E ⟨p, n, rfl, _⟩
    rfl
  rintro f cdv A outer s H vs Q E free hr ⟨p, n, rfl, pt, n0, n1, q⟩
  refine ⟨_, (pss_one (ps_if (pt_not (pt_val (pe_cal Cis_below free (hr.mono (by decide)) (pa_cons (pv 1) (pa_cons (pe_op op_add (pe_cal C_last free (hr.mono (by decide)) (pa_cons (pv 0) pa_nil)) pe_int) pa_nil)))))
    (pss_one ps_dead)
    pss_nil)), ?_⟩
  refine ⟨_, rfl, _, rfl, p, rfl, pt, _, _, rfl, rfl, n, _, rfl, _, rfl, ?_⟩
  refine iteF' (by simp; omega) ?_
  exact q
/-! ### where seats stand -/
def spFar : Sp := fun vs H Q _ => ∃ (p : Nat) (n : Int), vs = [.int (p : Int), .int n] ∧ p ≤ 9973 ∧ Q (.bl (farB p n)) H
theorem sc_is_far : FnScope ["p", "seat"] ["p", "seat"] (defScope s_is_far) :=
  ⟨rfl, rfl, rfl, by decide +kernel, rfl, by decide +kernel, by decide +kernel⟩
theorem ok_far (F : Fn K mg "_is_far" s_is_far) (C_last : Cal P w K mg base "_last" 1 ["p"] spLast) : Cal P w K mg base "_is_far" 2 ["p", "seat"] spFar := by
  refine cal_of F sc_is_far
    (fun _ _ _ _ _ _ us hl => match us, hl with | [_, _], _ => rfl) ?_ ?_
  · rintro vs H Q E ⟨p, n, rfl, _⟩
    rfl
  rintro f cdv A outer s H vs Q E free hr ⟨p, n, rfl, pt, q⟩
  refine ⟨_, (pss_one (ps_ret (pe_or (pe_cmpR op_eq (pv 1) (pe_cal C_last free (hr.mono (by decide)) (pa_cons (pv 0) pa_nil)) (nomark _)) (pe_one (pe_cmpR op_eq (pe_op op_mod (pv 1) (pe_op op_add (pv 0) pe_int)) (pv 0) (nomark _)))))), ?_⟩
  unfold farB at q
  refine ⟨_, rfl, _, rfl, p, rfl, pt, rfl, _, rfl, ?_⟩
  rw [dec_ii]
  refine ite2 (fun c => ?_) (fun c => ?_)
  · rw [c] at q
    exact q
  · have c' : decide (n = lstZ p) = false := by simpa using c
    rw [c', Bool.false_or] at q
    refine ⟨_, rfl, _, rfl, _, _, rfl, rfl, _, _, rfl, rfl, (by show (0 : Int) < (p : Int) + 1; omega), _, rfl, rfl, ?_⟩
    rw [dec_ii]
    exact q
def spUpr : Sp := fun vs H Q _ => ∃ (p : Nat) (n : Int), vs = [.int (p : Int), .int n] ∧ p ≤ 9973 ∧ Q (.bl (uprB p n)) H
theorem sc_is_upright : FnScope ["p", "number"] ["p", "number"] (defScope s_is_upright) :=
  ⟨rfl, rfl, rfl, by decide +kernel, rfl, by decide +kernel, by decide +kernel⟩
theorem ok_upr (F : Fn K mg "_is_upright" s_is_upright) (C_last : Cal P w K mg base "_last" 1 ["p"] spLast) : Cal P w K mg base "_is_upright" 2 ["p", "number"] spUpr := by
  refine cal_of F sc_is_upright
    (fun _ _ _ _ _ _ us hl => match us, hl with | [_, _], _ => rfl) ?_ ?_
  · rintro vs H Q E ⟨p, n, rfl, _⟩
    rfl
  rintro f cdv A outer s H vs Q E free hr ⟨p, n, rfl, pt, q⟩
  refine ⟨_, (pss_one (ps_ret (pe_and (pe_cmpR op_ne (pv 1) (pe_cal C_last free (hr.mono (by decide)) (pa_cons (pv 0) pa_nil)) (nomark _)) (pe_one (pe_cmpR op_eq (pe_op op_mod (pv 1) (pe_op op_add (pv 0) pe_int)) pe_int (nomark _)))))), ?_⟩
  unfold uprB at q
  refine ⟨_, rfl, _, rfl, p, rfl, pt, rfl, _, rfl, ?_⟩
  rw [dec_ii]
  refine ite2 (fun c => ?_) (fun c => ?_)
  · rw [c, Bool.true_and] at q
    refine ⟨_, rfl, _, rfl, _, _, rfl, rfl, _, _, rfl, rfl, (by show (0 : Int) < (p : Int) + 1; omega), rfl, ?_⟩
    rw [dec_ii]
    exact q
  · have c' : (!decide (n = lstZ p)) = false := by simpa using c
    rw [c', Bool.false_and] at q
    exact q
def spFarS : Sp := fun vs H Q _ => ∃ (p : Nat) (n : Int), vs = [.int (p : Int), .int n] ∧ p ≤ 9973 ∧ Q (.int (farS p n)) H
theorem sc_far_seat : FnScope ["p", "number"] ["p", "number"] (defScope s_far_seat) :=
  ⟨rfl, rfl, rfl, by decide +kernel, rfl, by decide +kernel, by decide +kernel⟩
theorem ok_farS (F : Fn K mg "_far_seat" s_far_seat) (C_last : Cal P w K mg base "_last" 1 ["p"] spLast) (C_is_upright : Cal P w K mg base "_is_upright" 2 ["p", "number"] spUpr) : Cal P w K mg base "_far_seat" 3 ["p", "number"] spFarS := by
  refine cal_of F sc_far_seat
    (fun _ _ _ _ _ _ us hl => match us, hl with | [_, _], _ => rfl) ?_ ?_
  · rintro vs H Q E ⟨p, n, rfl, _⟩
    rfl
  rintro f cdv A outer s H vs Q E free hr ⟨p, n, rfl, pt, q⟩
  refine ⟨_, (pss_cons (ps_if (pt_val (pe_cal C_is_upright free (hr.mono (by decide)) (pa_cons (pv 0) (pa_cons (pv 1) pa_nil))))
    (pss_one (ps_ret (pe_cal C_last free (hr.mono (by decide)) (pa_cons (pv 0) pa_nil))))
    pss_nil)
    (pss_one (ps_ret (pe_op op_add (pe_op op_sub (pv 1) (pe_op op_mod (pv 1) (pe_op op_add (pv 0) pe_int))) (pv 0))))), ?_⟩
  unfold farS at q
  refine ⟨_, rfl, _, rfl, p, n, rfl, pt, _, rfl, ?_⟩
  refine ite2 (fun c => ?_) (fun c => ?_)
  · rw [if_pos c] at q
    exact ⟨_, rfl, p, rfl, pt, q⟩
  · rw [if_neg c] at q
    exact ⟨_, rfl, _, rfl, _, rfl, _, _, rfl, rfl, _, _, rfl, rfl, (by show (0 : Int) < (p : Int) + 1; omega), _, _, rfl, rfl, _, rfl, _, _, rfl, rfl, q⟩
end

end G0
namespace G0
open PySem PySem.Spec PyProof.Rows L2
section
variable {P : Program} {w : World} {K : PySem.W.Frag} {mg : Str → Option Value} {base : Heap}
/-! ### seats over a place, sets through a seat -/
def spOver (K : PySem.W.Frag) : Sp := fun vs H Q _ => ∃ (p : Nat) (n x : Int), vs = [.int (p : Int), .int n, .int x] ∧ Pr p ∧ 0 ≤ x ∧ x < p ∧ ∀ H', Same H H' → Q (.int (sOver p n x)) H'
theorem sc_seat_over : FnScope ["p", "number", "x", "m", "i"] ["p", "number", "x"] (defScope s_seat_over) :=
  ⟨rfl, rfl, rfl, by decide +kernel, rfl, by decide +kernel, by decide +kernel⟩
theorem ok_over (F : Fn K mg "_seat_over" s_seat_over) (T : Bl51 mg) : Cal P w K mg base "_seat_over" 1 ["p", "number", "x"] (spOver K) := by
  refine cal_of F sc_seat_over
    (fun _ _ _ _ _ _ us hl => match us, hl with | [_, _, _], _ => rfl) ?_ ?_
  · rintro vs H Q E ⟨p, n, x, rfl, _⟩
    rfl
  rintro f cdv A outer s H vs Q E free hr ⟨p, n, x, rfl, hp, x0, x1, q⟩
  have p2 := hp.two
  have pt := hp.top
  refine ⟨_, (pss_cons (ps_asg (pe_callB call_divmod (by rfl) T.divmod (by decide +kernel) (pa_cons (pv 1) (pa_cons (pe_op op_add (pv 0) pe_int) pa_nil))) (pg_tup (by rfl) (pgs_cons (pg_name (i := 3) sc_seat_over.nd rfl (Or.inl rfl)) (pgs_cons (pg_name (i := 4) sc_seat_over.nd rfl (Or.inl rfl)) pgs_nil))))
    (pss_one (ps_ret (pe_op op_add (pe_op op_mul (pv 2) (pe_op op_add (pv 0) pe_int)) (pe_op op_mod (pe_op op_add (pe_op op_mul (pv 2) (pe_op op_sub (pv 3) (pv 2))) (pv 4)) (pv 0)))))), ?_⟩
  refine ⟨_, rfl, _, rfl, _, _, rfl, rfl, _, _, rfl, ⟨by omega, by omega⟩, fun t ht => ?_⟩
  refine ⟨t, _, rfl, SqT.of upd_same, rfl, _, _, rfl, _, _, rfl, rfl, ?_⟩
  refine ⟨_, rfl, _, rfl, _, _, rfl, rfl, _, _, rfl, rfl, .inl ⟨by omega, by omega⟩, ?_⟩
  refine ⟨_, rfl, _, rfl, _, rfl, _, _, rfl, rfl, _, _, rfl, rfl, .inl ⟨by omega, by omega⟩, _, rfl, _, _, rfl, rfl, _, rfl, _, _, rfl, rfl, (by show (0 : Int) < (p : Int); omega), _, _, rfl, rfl, ?_⟩
  exact q _ (same_upd ht)
def spThr (K : PySem.W.Frag) : Sp := fun vs H Q _ => ∃ (p : Nat) (far near : Int), vs = [.int (p : Int), .int far, .int near] ∧ Pr p ∧ 0 ≤ far ∧ far ≤ lstZ p ∧ 0 ≤ near ∧ near ≤ lstZ p ∧ ∀ H', Same H H' → Q (.int (sThr p far near)) H'
theorem sc_set_through : FnScope ["p", "far", "near", "x", "j", "m"] ["p", "far", "near"] (defScope s_set_through) :=
  ⟨rfl, rfl, rfl, by decide +kernel, rfl, by decide +kernel, by decide +kernel⟩
theorem ok_thr (F : Fn K mg "_set_through" s_set_through) (T : Bl51 mg) (C_last : Cal P w K mg base "_last" 1 ["p"] spLast) : Cal P w K mg base "_set_through" 2 ["p", "far", "near"] (spThr K) := by
  refine cal_of F sc_set_through
    (fun _ _ _ _ _ _ us hl => match us, hl with | [_, _, _], _ => rfl) ?_ ?_
  · rintro vs H Q E ⟨p, n, x, rfl, _⟩
    rfl
  rintro f cdv A outer s H vs Q E free hr ⟨p, n, x, rfl, hp, n0, n1, x0, x1, q⟩
  have p2 := hp.two
  have pt := hp.top
  obtain ⟨⟨y0, y1, j0, j1, xj⟩, es⟩ := co x0 x1
  obtain ⟨⟨m0, m1, i0, i1, mi⟩, en⟩ := co n0 n1
  refine ⟨_, (pss_cons (ps_asg (pe_callB call_divmod (by rfl) T.divmod (by decide +kernel) (pa_cons (pv 2) (pa_cons (pe_op op_add (pv 0) pe_int) pa_nil))) (pg_tup (by rfl) (pgs_cons (pg_name (i := 3) sc_set_through.nd rfl (Or.inl rfl)) (pgs_cons (pg_name (i := 4) sc_set_through.nd rfl (Or.inl rfl)) pgs_nil))))
    (pss_cons (ps_if (pt_cmpR op_eq (pv 1) (pe_cal C_last free (hr.mono (by decide)) (pa_cons (pv 0) pa_nil)) (nomark _))
    (pss_one (ps_ret (pe_op op_mul (pv 3) (pe_op op_add (pv 0) pe_int))))
    pss_nil)
    (pss_cons (ps_set (i := 5) sc_set_through.nd rfl (Or.inl rfl) (pe_op op_fdivW (pv 1) (pe_op op_add (pv 0) pe_int)))
    (pss_one (ps_ret (pe_op op_add (pe_op op_add (pe_op op_mul (pv 5) (pe_op op_add (pv 0) pe_int)) (pe_op op_mod (pe_op op_sub (pe_op op_sub (pv 4) (pe_op op_mul (pv 3) (pe_op op_sub (pv 5) (pv 3)))) pe_int) (pv 0))) pe_int)))))), ?_⟩
  unfold sThr at q
  refine ⟨_, rfl, _, rfl, _, _, rfl, rfl, _, _, rfl, ⟨by omega, by omega⟩, fun t ht => ?_⟩
  refine ⟨t, _, rfl, SqT.of upd_same, rfl, _, _, rfl, _, _, rfl, rfl, ?_⟩
  refine ⟨_, rfl, _, rfl, p, rfl, pt, rfl, _, rfl, ?_⟩
  rw [dec_ii]
  refine ite2 (fun c => ?_) (fun c => ?_)
  · have c' : n = lstZ p := of_decide_eq_true c
    rw [if_pos c'] at q
    exact ⟨_, rfl, _, rfl, _, _, rfl, rfl, _, _, rfl, rfl, .inl ⟨by omega, by omega⟩, q _ (same_upd ht)⟩
  · have c' : ¬ n = lstZ p := fun z => c (decide_eq_true z)
    rw [if_neg c'] at q
    refine ⟨_, rfl, _, rfl, _, _, rfl, rfl, _, _, rfl, rfl, ⟨by omega, ?_⟩, ?_⟩
    · exact Nat.lt_of_le_of_lt (PySem.W.mg_log (k := 20) (by omega)) (by decide)
    refine ⟨_, rfl, _, rfl, _, _, rfl, rfl, _, _, rfl, rfl, .inl ⟨by omega, by omega⟩, ?_⟩
    refine ⟨_, rfl, _, rfl, _, rfl, _, rfl, _, _, rfl, rfl, _, _, rfl, rfl, .inl ⟨by omega, by omega⟩, _, _, rfl, rfl, _, _, rfl, rfl, _, rfl, _, _, rfl, rfl, (by show (0 : Int) < (p : Int); omega), _, _, rfl, rfl, _, _, rfl, rfl, ?_⟩
    exact q _ (same_upd ht)
/-! ### the inverse -/
def spInv : Sp := fun vs H Q _ => ∃ (n : Int) (p : Nat), vs = [.int n, .int (p : Int)] ∧ Pr p ∧ ¬ (p : Int) ∣ n ∧ ∀ r : Int, 0 ≤ r → r < p → (p : Int) ∣ n * r - 1 → Q (.int r) H
theorem sc_inverse : FnScope ["number", "p", "power", "square", "found"] ["number", "p"] (defScope s_inverse) :=
  ⟨rfl, rfl, rfl, by decide +kernel, rfl, by decide +kernel, by decide +kernel⟩
theorem ok_inv (F : Fn K mg "_inverse" s_inverse) : Cal P w K mg base "_inverse" 1 ["number", "p"] spInv := by
  refine cal_of F sc_inverse
    (fun _ _ _ _ _ _ us hl => match us, hl with | [_, _], _ => rfl) ?_ ?_
  · rintro vs H Q E ⟨n, p, rfl, _⟩
    rfl
  rintro f cdv A outer s H vs Q E free hr ⟨n, p, rfl, hp, nd, q⟩
  have p2 := hp.two
  have pt := hp.top
  refine ⟨_, (pss_cons (ps_set (i := 2) sc_inverse.nd rfl (Or.inl rfl) (pe_op op_sub (pv 1) pe_int))
    (pss_cons (ps_set (i := 3) sc_inverse.nd rfl (Or.inl rfl) (pe_op op_mod (pv 0) (pv 1)))
    (pss_cons (ps_set (i := 4) sc_inverse.nd rfl (Or.inl rfl) pe_int)
    (pss_cons (ps_while PassesOwn.never (pt_cmpR op_gt (pv 2) pe_int (nomark _))
    (pss_cons (ps_if (pt_cmpR op_eq (pe_op op_mod (pv 2) pe_int) pe_int (nomark _))
    (pss_one (ps_set (i := 4) sc_inverse.nd rfl (Or.inl rfl) (pe_op op_mod (pe_op op_mul (pv 4) (pv 3)) (pv 1))))
    pss_nil)
    (pss_cons (ps_set (i := 3) sc_inverse.nd rfl (Or.inl rfl) (pe_op op_mod (pe_op op_mul (pv 3) (pv 3)) (pv 1)))
    (pss_one (ps_aug (i := 2) sc_inverse.nd rfl (Or.inl rfl) pe_int iop_fdiv)))))
    (pss_one (ps_ret (pv 4))))))), ?_⟩
  refine ⟨_, rfl, _, _, rfl, rfl, ?_⟩
  refine ⟨_, rfl, _, rfl, _, _, rfl, rfl, (by show (0 : Int) < (p : Int); omega), ?_⟩
  have a0 := Int.emod_nonneg n (show (p : Int) ≠ 0 by omega)
  have a1 := Int.emod_lt_of_pos n (show (0 : Int) < (p : Int) by omega)
  refine ⟨fun m σ G => G = H ∧ ∃ f s w : Nat, m = w ∧ σ = [some (V.int n), some (V.int (p : Int)), some (V.int (w : Int)), some (V.int (s : Int)), some (V.int (f : Int))] ∧ f < p ∧ s < p ∧ f * s ^ w % p = (n % p).toNat ^ (p - 2) % p, ⟨p - 2, rfl, 1, (n % p).toNat, p - 2, rfl, ?_, by omega, by omega, by rw [Nat.one_mul]⟩, ?_⟩
  · rw [show (((n % p).toNat : Nat) : Int) = n % p by omega, show ((p - 2 : Nat) : Int) = (p : Int) - 2 by omega]
    rfl
  rintro m σ G ⟨rfl, f, s, w, rfl, rfl, f1, s1, e⟩
  refine ⟨_, rfl, _, _, rfl, rfl, _, rfl, ?_⟩
  refine ite2 (fun c => ?_) (fun c => ?_)
  · have w0 : 0 < m := by have := of_decide_eq_true c; omega
    refine ⟨fun σ' G' => G' = G ∧ ∃ f s w : Nat, w = m / 2 ∧ σ' = [some (V.int n), some (V.int (p : Int)), some (V.int (w : Int)), some (V.int (s : Int)), some (V.int (f : Int))] ∧ f < p ∧ s < p ∧ f * s ^ w % p = (n % p).toNat ^ (p - 2) % p, ?_, ?_⟩
    · rintro σ' G' ⟨rfl, f', s', w', rfl, rfl, h1, h2, h3⟩
      exact ⟨m / 2, by omega, rfl, f', s', m / 2, rfl, rfl, h1, h2, h3⟩
    refine ⟨_, rfl, _, _, rfl, rfl, (by show (0 : Int) < 2; decide), rfl, _, rfl, ?_⟩
    rw [dec_ii]
    have st := inv_step (p := p) (f := f) (s := s) (w := m)
    rw [e] at st
    have s2 : s * s % p < p := Nat.mod_lt _ (by omega)
    have tw : ((m : Nat) : Int) / 2 = ((m / 2 : Nat) : Int) := by omega
    refine ite2 (fun c2 => ?_) (fun c2 => ?_)
    · have c3 : m % 2 = 1 := by have := of_decide_eq_true c2; omega
      rw [if_pos c3] at st
      refine ⟨_, rfl, _, rfl, _, _, rfl, rfl, .inl ⟨by omega, by omega⟩, _, rfl, _, _, rfl, rfl, (by show (0 : Int) < (p : Int); omega), ?_⟩
      refine ⟨_, rfl, _, rfl, _, _, rfl, rfl, .inl ⟨by omega, by omega⟩, _, rfl, _, _, rfl, rfl, (by show (0 : Int) < (p : Int); omega), ?_⟩
      refine ⟨_, rfl, _, _, rfl, rfl, ⟨by decide, by decide⟩, ?_⟩
      refine ⟨rfl, (f * s % p), s * s % p, m / 2, rfl, ?_, (Nat.mod_lt _ (by omega)), s2, ?_⟩
      · rfl
      · exact st.symm
    · have c3 : ¬ m % 2 = 1 := fun z => c2 (decide_eq_true (by omega))
      rw [if_neg c3] at st
      refine ⟨_, rfl, _, rfl, _, _, rfl, rfl, .inl ⟨by omega, by omega⟩, _, rfl, _, _, rfl, rfl, (by show (0 : Int) < (p : Int); omega), ?_⟩
      refine ⟨_, rfl, _, _, rfl, rfl, ⟨by decide, by decide⟩, ?_⟩
      refine ⟨rfl, f, s * s % p, m / 2, rfl, ?_, f1, s2, ?_⟩
      · rfl
      · exact st.symm
  · have w0 : m = 0 := by
      rcases Nat.eq_zero_or_pos m with z | z
      · exact z
      · exact absurd (decide_eq_true (by omega)) c
    subst w0
    rw [Nat.pow_zero, Nat.mul_one] at e
    exact ⟨_, rfl, q _ (by omega) (by omega) (inv_end hp nd e)⟩
end

end G0
namespace G0
open PySem PySem.Spec PyProof.Rows L2
section
variable {P : Program} {w : World} {K : PySem.W.Frag} {mg : Str → Option Value} {base : Heap}
/-! ### lies -/
def spLies (K : PySem.W.Frag) : Sp := fun vs H Q _ => ∃ (p : Nat) (s n : Int), vs = [.int (p : Int), .int s, .int n] ∧ Pr p ∧ (0 ≤ s ∧ s ≤ lstZ p) ∧ (0 ≤ n ∧ n ≤ lstZ p) ∧ ∀ H', Same H H' → Q (.bl (liesB p s n)) H'
theorem sc_lies : FnScope ["p", "seat", "number"] ["p", "seat", "number"] (defScope s_lies) :=
  ⟨rfl, rfl, rfl, by decide +kernel, rfl, by decide +kernel, by decide +kernel⟩
theorem ok_lies (F : Fn K mg "lies" s_lies) (C_look_at_prime : Cal P w K mg base "_look_at_prime" 2 ["p"] spLP) (C_look_at_seat : Cal P w K mg base "_look_at_seat" 3 ["p", "seat"] spLS) (C_look_at_set : Cal P w K mg base "_look_at_set" 2 ["p", "number"] spLS)
    (C_last : Cal P w K mg base "_last" 1 ["p"] spLast) (C_is_far : Cal P w K mg base "_is_far" 2 ["p", "seat"] spFar) (C_far_seat : Cal P w K mg base "_far_seat" 3 ["p", "number"] spFarS) (C_set_through : Cal P w K mg base "_set_through" 2 ["p", "far", "near"] (spThr K)) :
    Cal P w K mg base "lies" 4 ["p", "seat", "number"] (spLies K) := by
  refine cal_of F sc_lies
    (fun _ _ _ _ _ _ us hl => match us, hl with | [_, _, _], _ => rfl) ?_ ?_
  · rintro vs H Q E ⟨p, n, x, rfl, _⟩
    rfl
  rintro f cdv A outer s H vs Q E free hr ⟨p, x, n, rfl, hp, ⟨x0, x1⟩, ⟨n0, n1⟩, q⟩
  have p2 := hp.two
  have pt := hp.top
  refine ⟨_, (pss_cons (ps_expr (pe_cal C_look_at_prime free (hr.mono (by decide)) (pa_cons (pv 0) pa_nil)))
    (pss_cons (ps_expr (pe_cal C_look_at_seat free (hr.mono (by decide)) (pa_cons (pv 0) (pa_cons (pv 1) pa_nil))))
    (pss_cons (ps_expr (pe_cal C_look_at_set free (hr.mono (by decide)) (pa_cons (pv 0) (pa_cons (pv 2) pa_nil))))
    (pss_cons (ps_if (pt_cmpR op_eq (pv 2) (pe_cal C_last free (hr.mono (by decide)) (pa_cons (pv 0) pa_nil)) (nomark _))
    (pss_one (ps_ret (pe_cal C_is_far free (hr.mono (by decide)) (pa_cons (pv 0) (pa_cons (pv 1) pa_nil)))))
    pss_nil)
    (pss_cons (ps_if (pt_val (pe_cal C_is_far free (hr.mono (by decide)) (pa_cons (pv 0) (pa_cons (pv 1) pa_nil))))
    (pss_one (ps_ret (pe_cmpR op_eq (pv 1) (pe_cal C_far_seat free (hr.mono (by decide)) (pa_cons (pv 0) (pa_cons (pv 2) pa_nil))) (nomark _))))
    pss_nil)
    (pss_one (ps_ret (pe_cmpR op_eq (pv 2) (pe_cal C_set_through free (hr.mono (by decide)) (pa_cons (pv 0) (pa_cons (pe_cal C_far_seat free (hr.mono (by decide)) (pa_cons (pv 0) (pa_cons (pv 2) pa_nil))) (pa_cons (pv 1) pa_nil)))) (nomark _))))))))), ?_⟩
  unfold liesB at q
  refine ⟨_, rfl, p, rfl, hp, fun H1 s1 => ?_⟩
  refine ⟨_, rfl, _, rfl, p, x, rfl, pt, x0, x1, ?_⟩
  refine ⟨_, rfl, _, rfl, p, n, rfl, pt, n0, n1, ?_⟩
  refine ⟨_, rfl, _, rfl, p, rfl, pt, rfl, _, rfl, ?_⟩
  rw [dec_ii]
  refine ite2 (fun c => ?_) (fun c => ?_)
  · rw [if_pos (of_decide_eq_true c)] at q
    exact ⟨_, rfl, _, rfl, p, x, rfl, pt, q _ s1⟩
  have c' : ¬ n = lstZ p := fun z => c (decide_eq_true z)
  rw [if_neg c'] at q
  refine ⟨_, rfl, _, rfl, p, x, rfl, pt, _, rfl, ?_⟩
  refine ite2 (fun c2 => ?_) (fun c2 => ?_)
  · rw [if_pos c2] at q
    refine ⟨_, rfl, _, rfl, _, rfl, p, n, rfl, pt, rfl, ?_⟩
    rw [dec_ii]
    exact q _ s1
  · rw [if_neg c2] at q
    obtain ⟨f0, f1, _⟩ := far_in n0 n1 c'
    refine ⟨_, rfl, _, rfl, _, rfl, _, rfl, p, n, rfl, pt, _, rfl, p, farS p n, x, rfl, hp, f0, f1, x0, x1, fun H2 s2 => ⟨rfl, ?_⟩⟩
    rw [dec_ii]
    exact q _ (s1.trans s2)
/-! ### shared -/
def spShared (K : PySem.W.Frag) : Sp := fun vs H Q _ => ∃ (p : Nat) (one other : Int), vs = [.int (p : Int), .int one, .int other] ∧ Pr p ∧ (0 ≤ one ∧ one ≤ lstZ p) ∧ (0 ≤ other ∧ other ≤ lstZ p) ∧ one ≠ other ∧
  ∀ (z : Int) H', Same H H' → 0 ≤ z → z ≤ lstZ p → InS p z one → InS p z other → Q (.int z) H'
theorem sc_shared : FnScope ["p", "one", "other", "m", "i", "n", "k"] ["p", "one", "other"] (defScope s_shared) :=
  ⟨rfl, rfl, rfl, by decide +kernel, rfl, by decide +kernel, by decide +kernel⟩
theorem ok_shared (F : Fn K mg "shared" s_shared) (T : Bl51 mg) (C_look_at_prime : Cal P w K mg base "_look_at_prime" 2 ["p"] spLP) (C_look_at_set : Cal P w K mg base "_look_at_set" 2 ["p", "number"] spLS)
    (C_last : Cal P w K mg base "_last" 1 ["p"] spLast) (C_is_upright : Cal P w K mg base "_is_upright" 2 ["p", "number"] spUpr) (C_far_seat : Cal P w K mg base "_far_seat" 3 ["p", "number"] spFarS) (C_seat_over : Cal P w K mg base "_seat_over" 1 ["p", "number", "x"] (spOver K))
    (C_inverse : Cal P w K mg base "_inverse" 1 ["number", "p"] spInv) : Cal P w K mg base "shared" 4 ["p", "one", "other"] (spShared K) := by
  refine cal_of F sc_shared
    (fun _ _ _ _ _ _ us hl => match us, hl with | [_, _, _], _ => rfl) ?_ ?_
  · rintro vs H Q E ⟨p, n, x, rfl, _⟩
    rfl
  rintro f cdv A outer s H vs Q E free hr ⟨p, n, k, rfl, hp, ⟨n0, n1⟩, ⟨k0, k1⟩, ne, q⟩
  have p2 := hp.two
  have pt := hp.top
  refine ⟨_, (pss_cons (ps_expr (pe_cal C_look_at_prime free (hr.mono (by decide)) (pa_cons (pv 0) pa_nil)))
    (pss_cons (ps_expr (pe_cal C_look_at_set free (hr.mono (by decide)) (pa_cons (pv 0) (pa_cons (pv 1) pa_nil))))
    (pss_cons (ps_expr (pe_cal C_look_at_set free (hr.mono (by decide)) (pa_cons (pv 0) (pa_cons (pv 2) pa_nil))))
    (pss_cons (ps_if (pt_cmpR op_eq (pv 1) (pv 2) (nomark _))
    (pss_one ps_dead)
    pss_nil)
    (pss_cons (ps_if (pt_cmpR op_eq (pv 1) (pe_cal C_last free (hr.mono (by decide)) (pa_cons (pv 0) pa_nil)) (nomark _))
    (pss_one (ps_ret (pe_cal C_far_seat free (hr.mono (by decide)) (pa_cons (pv 0) (pa_cons (pv 2) pa_nil)))))
    pss_nil)
    (pss_cons (ps_if (PW.pt (pw_or (pt_cmpR op_eq (pv 2) (pe_cal C_last free (hr.mono (by decide)) (pa_cons (pv 0) pa_nil)) (nomark _)) (pw_or1 (pt_cmpR op_eq (pe_cal C_far_seat free (hr.mono (by decide)) (pa_cons (pv 0) (pa_cons (pv 1) pa_nil))) (pe_cal C_far_seat free (hr.mono (by decide)) (pa_cons (pv 0) (pa_cons (pv 2) pa_nil))) (nomark _)))))
    (pss_one (ps_ret (pe_cal C_far_seat free (hr.mono (by decide)) (pa_cons (pv 0) (pa_cons (pv 1) pa_nil)))))
    pss_nil)
    (pss_cons (ps_if (pt_val (pe_cal C_is_upright free (hr.mono (by decide)) (pa_cons (pv 0) (pa_cons (pv 1) pa_nil))))
    (pss_one (ps_ret (pe_cal C_seat_over free (hr.mono (by decide)) (pa_cons (pv 0) (pa_cons (pv 2) (pa_cons (pe_op op_fdivW (pv 1) (pe_op op_add (pv 0) pe_int)) pa_nil))))))
    pss_nil)
    (pss_cons (ps_if (pt_val (pe_cal C_is_upright free (hr.mono (by decide)) (pa_cons (pv 0) (pa_cons (pv 2) pa_nil))))
    (pss_one (ps_ret (pe_cal C_seat_over free (hr.mono (by decide)) (pa_cons (pv 0) (pa_cons (pv 1) (pa_cons (pe_op op_fdivW (pv 2) (pe_op op_add (pv 0) pe_int)) pa_nil))))))
    pss_nil)
    (pss_cons (ps_asg (pe_callB call_divmod (by rfl) T.divmod (by decide +kernel) (pa_cons (pv 1) (pa_cons (pe_op op_add (pv 0) pe_int) pa_nil))) (pg_tup (by rfl) (pgs_cons (pg_name (i := 3) sc_shared.nd rfl (Or.inl rfl)) (pgs_cons (pg_name (i := 4) sc_shared.nd rfl (Or.inl rfl)) pgs_nil))))
    (pss_cons (ps_asg (pe_callB call_divmod (by rfl) T.divmod (by decide +kernel) (pa_cons (pv 2) (pa_cons (pe_op op_add (pv 0) pe_int) pa_nil))) (pg_tup (by rfl) (pgs_cons (pg_name (i := 5) sc_shared.nd rfl (Or.inl rfl)) (pgs_cons (pg_name (i := 6) sc_shared.nd rfl (Or.inl rfl)) pgs_nil))))
    (pss_one (ps_ret (pe_cal C_seat_over free (hr.mono (by decide)) (pa_cons (pv 0) (pa_cons (pv 1) (pa_cons (pe_op op_mod (pe_op op_mul (pe_op op_sub (pv 6) (pv 4)) (pe_cal C_inverse free (hr.mono (by decide)) (pa_cons (pe_op op_sub (pv 3) (pv 5)) (pa_cons (pv 0) pa_nil)))) (pv 0)) pa_nil)))))))))))))))), ?_⟩
  obtain ⟨⟨m0, m1, i0, i1, mi⟩, en⟩ := co n0 n1
  obtain ⟨⟨o0, o1, l0, l1, ol⟩, eo⟩ := co k0 k1
  have lg : ((p : Int) + 1).natAbs.log2 < 9000 := Nat.lt_of_le_of_lt (PySem.W.mg_log (k := 20) (by omega)) (by decide)
  have D : ∀ r : Int, (n / ((p : Int) + 1) ≠ k / ((p : Int) + 1) → (p : Int) ∣ (n / ((p : Int) + 1) - k / ((p : Int) + 1)) * r - 1) →
    0 ≤ shD p r n k ∧ shD p r n k ≤ lstZ p ∧ InS p (shD p r n k) n ∧ InS p (shD p r n k) k := fun r hr => shD_in hp n0 n1 k0 k1 ne hr
  have mp : n ≠ lstZ p → n / ((p : Int) + 1) < p := fun h => by
    have : n / ((p : Int) + 1) ≠ p := fun z => h (en.mpr z)
    omega
  have op : k ≠ lstZ p → k / ((p : Int) + 1) < p := fun h => by
    have : k / ((p : Int) + 1) ≠ p := fun z => h (eo.mpr z)
    omega
  refine ⟨_, rfl, p, rfl, hp, fun H1 s1 => ?_⟩
  refine ⟨_, rfl, _, rfl, p, n, rfl, pt, n0, n1, ?_⟩
  refine ⟨_, rfl, _, rfl, p, k, rfl, pt, k0, k1, ?_⟩
  refine ⟨_, rfl, _, rfl, rfl, _, rfl, ?_⟩
  rw [dec_ii]
  refine iteF' (by simp [ne]) ?_
  refine ⟨_, rfl, _, rfl, p, rfl, pt, rfl, _, rfl, ?_⟩
  rw [dec_ii]
  refine ite2 (fun c => ?_) (fun c => ?_)
  · have c' := of_decide_eq_true c
    have h3 : k ≠ lstZ p := fun z => ne (c'.trans z.symm)
    obtain ⟨f0, f1, f2, f3⟩ := far_in k0 k1 h3
    exact ⟨_, rfl, _, rfl, p, k, rfl, pt, q _ _ s1 f0 f1 (by rw [c']; exact f3) f2⟩
  have c1 : n ≠ lstZ p := fun z => c (decide_eq_true z)
  obtain ⟨f0, f1, f2, f3⟩ := far_in n0 n1 c1
  have fin : (k = lstZ p ∨ farS p n = farS p k) → Q (.int (farS p n)) H1 := fun h => q _ _ s1 f0 f1 f2 (by
    by_cases h3 : k = lstZ p
    · rw [h3]; exact f3
    · rw [h.resolve_left h3]; exact (far_in k0 k1 h3).2.2.1)
  refine ⟨_, rfl, _, rfl, p, rfl, pt, rfl, _, rfl, ?_⟩
  rw [dec_ii]
  refine ite2 (fun c2 => ?_) (fun c2 => ?_)
  · exact iteT' rfl ⟨_, rfl, _, rfl, p, n, rfl, pt, fin (.inl (of_decide_eq_true c2))⟩
  have c3 : k ≠ lstZ p := fun z => c2 (decide_eq_true z)
  refine ⟨_, rfl, _, rfl, p, n, rfl, pt, _, rfl, _, rfl, p, k, rfl, pt, rfl, _, rfl, ?_⟩
  rw [dec_ii]
  refine ite2 (fun c4 => ?_) (fun c4 => ?_)
  · exact ⟨_, rfl, _, rfl, p, n, rfl, pt, fin (.inr (of_decide_eq_true c4))⟩
  have c5 : farS p n ≠ farS p k := fun z => c4 (decide_eq_true z)
  have n5 : ¬ (k = lstZ p ∨ farS p n = farS p k) := fun z => z.elim c3 c5
  have d5 : ∀ r : Int, shD p r n k = if uprB p n = true then sOver p k (n / ((p : Int) + 1)) else if uprB p k = true then sOver p n (k / ((p : Int) + 1)) else sOver p n ((k % ((p : Int) + 1) - n % ((p : Int) + 1)) * r % p) := fun r => by
    unfold shD
    rw [if_neg c1, if_neg n5]
  obtain ⟨r0, hr0⟩ : ∃ r : Int, n / ((p : Int) + 1) ≠ k / ((p : Int) + 1) → (p : Int) ∣ (n / ((p : Int) + 1) - k / ((p : Int) + 1)) * r - 1 := by
    refine ⟨_, fun ne => inv_end hp (n := n / ((p : Int) + 1) - k / ((p : Int) + 1)) (fun d => ne (by have := small_eq d (by have := mp c1; have := op c3; omega) (by have := mp c1; have := op c3; omega); omega)) (f := ((n / ((p : Int) + 1) - k / ((p : Int) + 1)) % p).toNat ^ (p - 2) % p) (Nat.mod_mod _ _)⟩
  refine ⟨_, rfl, _, rfl, p, n, rfl, pt, _, rfl, ?_⟩
  refine ite2 (fun c6 => ?_) (fun c6 => ?_)
  · have D0 := D r0 hr0
    rw [d5, if_pos c6] at D0
    exact ⟨_, rfl, _, rfl, _, rfl, _, rfl, _, _, rfl, rfl, _, _, rfl, rfl, ⟨by omega, lg⟩, p, k, _, rfl, hp, m0, mp c1, fun H2 s2 => q _ _ (s1.trans s2) D0.1 D0.2.1 D0.2.2.1 D0.2.2.2⟩
  refine ⟨_, rfl, _, rfl, p, k, rfl, pt, _, rfl, ?_⟩
  refine ite2 (fun c7 => ?_) (fun c7 => ?_)
  · have D0 := D r0 hr0
    rw [d5, if_neg c6, if_pos c7] at D0
    exact ⟨_, rfl, _, rfl, _, rfl, _, rfl, _, _, rfl, rfl, _, _, rfl, rfl, ⟨by omega, lg⟩, p, n, _, rfl, hp, o0, op c3, fun H2 s2 => q _ _ (s1.trans s2) D0.1 D0.2.1 D0.2.2.1 D0.2.2.2⟩
  refine ⟨_, rfl, _, rfl, _, _, rfl, rfl, _, _, rfl, ⟨by omega, by omega⟩, fun t ht => ?_⟩
  refine ⟨t, _, rfl, SqT.of upd_same, rfl, _, _, rfl, _, _, rfl, rfl, ?_⟩
  refine ⟨_, rfl, _, rfl, _, _, rfl, rfl, _, _, rfl, ⟨by omega, by omega⟩, fun t2 ht2 => ?_⟩
  refine ⟨t2, _, rfl, SqT.of upd_same, rfl, _, _, rfl, _, _, rfl, rfl, ?_⟩
  have sA := s1.trans ((same_upd (o := .tup [.int (n / ((p : Int) + 1)), .int (n % ((p : Int) + 1))]) ht).trans (same_upd (o := .tup [.int (k / ((p : Int) + 1)), .int (k % ((p : Int) + 1))]) ht2))
  have hn : n % ((p : Int) + 1) ≠ 0 := fun z => c6 ((upr_iff c1).mpr z)
  have hk : k % ((p : Int) + 1) ≠ 0 := fun z => c7 ((upr_iff c3).mpr z)
  have nq : n / ((p : Int) + 1) ≠ k / ((p : Int) + 1) := fun z => c5 (by rw [farS_sl hn, farS_sl hk, z])
  have nd : ¬ (p : Int) ∣ n / ((p : Int) + 1) - k / ((p : Int) + 1) := fun d => nq (by
    have := small_eq d (by have := mp c1; have := op c3; omega) (by have := mp c1; have := op c3; omega)
    omega)
  refine ⟨_, rfl, _, rfl, _, rfl, _, rfl, _, _, rfl, rfl, _, rfl, _, rfl, _, _, rfl, rfl, _, rfl, _, p, rfl, hp, nd, fun r r0 r1 rd => ?_⟩
  have D0 := D r (fun _ => rd)
  rw [d5, if_neg c6, if_neg c7] at D0
  refine ⟨_, _, rfl, rfl, .inr ⟨by omega, by omega⟩, _, rfl, _, _, rfl, rfl, (by show (0 : Int) < (p : Int); omega), p, n, _, rfl, hp, Int.emod_nonneg _ (by omega), Int.emod_lt_of_pos _ (by omega), fun H2 s2 => q _ _ (sA.trans s2) D0.1 D0.2.1 D0.2.2.1 D0.2.2.2⟩
end

end G0
namespace G0
open PySem PySem.Spec PyProof.Rows L2
section
variable {P : Program} {w : World} {K : PySem.W.Frag} {mg : Str → Option Value} {base : Heap}
/-! ### the seats of a set, in a tuple -/
def spSetOf (K : PySem.W.Frag) : Sp := fun vs H Q _ => ∃ (p : Nat) (n : Int), vs = [.int (p : Int), .int n] ∧ Pr p ∧ (0 ≤ n ∧ n ≤ lstZ p) ∧
  ∀ (t : Addr) (us : List Int) H', Same H H' → H t = none → SqT K H' t (us.map V.int) → us.Perm (setL p n) → us.Pairwise (· < ·) → Q (.ref t) H'
theorem sc_set_of : FnScope ["p", "number", "x", "j"] ["p", "number"] (defScope s_set_of) :=
  ⟨rfl, rfl, rfl, by decide +kernel, rfl, by decide +kernel, by decide +kernel⟩
theorem ok_setof (F : Fn K mg "_set_of" s_set_of) (T : Bl51 mg) (C_last : Cal P w K mg base "_last" 1 ["p"] spLast) (C_is_upright : Cal P w K mg base "_is_upright" 2 ["p", "number"] spUpr) (C_far_seat : Cal P w K mg base "_far_seat" 3 ["p", "number"] spFarS)
    (C_seat_over : Cal P w K mg base "_seat_over" 1 ["p", "number", "x"] (spOver K)) : Cal P w K mg base "_set_of" 4 ["p", "number"] (spSetOf K) := by
  refine cal_of F sc_set_of
    (fun _ _ _ _ _ _ us hl => match us, hl with | [_, _], _ => rfl) ?_ ?_
  · rintro vs H Q E ⟨p, n, rfl, _⟩
    rfl
  rintro f cdv A outer s H vs Q E free hr ⟨p, n, rfl, hp, ⟨n0, n1⟩, q⟩
  have p2 := hp.two
  have pt := hp.top
  refine ⟨_, (pss_cons (ps_if (pt_cmpR op_eq (pv 1) (pe_cal C_last free (hr.mono (by decide)) (pa_cons (pv 0) pa_nil)) (nomark _))
    (pss_one (ps_ret (pe_callTy call_tuple_of (by rfl) T.tuple (by decide +kernel) (pa_cons (pe_op op_cat (pe_lc (own := [("x", 2)]) (g := gName 2) (tt := tYes) (by rfl) sc_set_of.nd (pi_range1 (by rfl) T.range (pa_cons (pv 0) pa_nil)) (blkOk_by (N := ["p", "number", "x", "j"]) (sc := defScope s_set_of) (by decide +kernel)) (fun _ _ _ _ _ => pg_name (i := 2) sc_set_of.nd rfl (Or.inl rfl)) (fun _ _ _ _ _ => pts_nil) (fun _ _ _ _ _ => (pe_op op_add (pe_op op_mul (pv 2) (pe_op op_add (pv 0) pe_int)) (pv 0)))) (pe_lst (pa_cons (pe_cal C_last free (hr.mono (by decide)) (pa_cons (pv 0) pa_nil)) pa_nil))) pa_nil))))
    pss_nil)
    (pss_cons (ps_if (pt_val (pe_cal C_is_upright free (hr.mono (by decide)) (pa_cons (pv 0) (pa_cons (pv 1) pa_nil))))
    (pss_one (ps_ret (pe_callTy call_tuple_of (by rfl) T.tuple (by decide +kernel) (pa_cons (pe_op op_cat (pe_lc (own := [("j", 3)]) (g := gName 3) (tt := tYes) (by rfl) sc_set_of.nd (pi_range1 (by rfl) T.range (pa_cons (pv 0) pa_nil)) (blkOk_by (N := ["p", "number", "x", "j"]) (sc := defScope s_set_of) (by decide +kernel)) (fun _ _ _ _ _ => pg_name (i := 3) sc_set_of.nd rfl (Or.inl rfl)) (fun _ _ _ _ _ => pts_nil) (fun _ _ _ _ _ => (pe_op op_add (pv 1) (pv 3)))) (pe_lst (pa_cons (pe_cal C_last free (hr.mono (by decide)) (pa_cons (pv 0) pa_nil)) pa_nil))) pa_nil))))
    pss_nil)
    (pss_one (ps_ret (pe_callTy call_tuple_of (by rfl) T.tuple (by decide +kernel) (pa_cons (pe_callB cr_sortedI (by rfl) T.sorted (by decide +kernel) (pa_cons (pe_op op_cat (pe_lc (own := [("x", 2)]) (g := gName 2) (tt := tYes) (by rfl) sc_set_of.nd (pi_range1 (by rfl) T.range (pa_cons (pv 0) pa_nil)) (blkOk_by (N := ["p", "number", "x", "j"]) (sc := defScope s_set_of) (by decide +kernel)) (fun _ _ _ _ _ => pg_name (i := 2) sc_set_of.nd rfl (Or.inl rfl)) (fun _ _ _ _ _ => pts_nil) (fun _ _ _ _ _ => (pe_cal C_seat_over free (hr.mono (by decide)) (pa_cons (pv 0) (pa_cons (pv 1) (pa_cons (pv 2) pa_nil)))))) (pe_lst (pa_cons (pe_cal C_far_seat free (hr.mono (by decide)) (pa_cons (pv 0) (pa_cons (pv 1) pa_nil))) pa_nil))) pa_nil)) pa_nil)))))), ?_⟩
  have big : ∀ {i : Nat}, i ≤ p → i < sizeLine := fun h => Nat.lt_of_lt_of_le (show _ < 10000 by omega) (by decide)
  refine ⟨_, rfl, _, rfl, p, rfl, pt, rfl, _, rfl, ?_⟩
  rw [dec_ii]
  refine ite2 (fun c => ?_) (fun c => ?_)
  · have c' := of_decide_eq_true c
    refine ⟨_, rfl, _, rfl, by omega, by omega, fun D hD => ?_⟩
    refine lc_range (lo := 0) (n := ((p : Int)).toNat) (fun i G => Same H G ∧ G D = some (.lst (((List.range i).map (fun x : Nat => (x : Int) * ((p : Int) + 1) + p)).map V.int))) ⟨same_upd hD, upd_same⟩ ?_ ?_
    · rintro i G hi ⟨sG, kD⟩
      refine ⟨rfl, lc_yes ?_⟩
      refine ⟨_, rfl, _, rfl, _, _, rfl, rfl, _, _, rfl, rfl, .inl ⟨by omega, by omega⟩, _, rfl, _, _, rfl, rfl, ?_⟩
      rw [Int.zero_add]
      refine ⟨_, kD, ?_, fun c o e => ?_, ?_⟩
      · rw [List.length_map, List.length_map, List.length_range]
        exact big (by omega)
      · rw [upd_ne (ne_of_none e hD)]
        exact sG _ _ e
      · rw [List.range_succ, List.map_append, List.map_append]
        exact upd_same
    rintro G ⟨sG, kD⟩
    rw [Int.toNat_natCast] at kD
    refine ⟨_, rfl, p, rfl, pt, ?_⟩
    refine ⟨by show 1 ≤ sizeLine; decide, fun e he => ?_⟩
    have de : D ≠ e := ne_of_none kD he
    refine ⟨_, _, _, _, rfl, rfl, (upd_ne de).trans kD, upd_same, ?_, fun l hl => ?_⟩
    · rw [List.length_map, List.length_map, List.length_range, List.length_singleton]
      exact Nat.le_trans (show _ ≤ 10000 by omega) (by decide)
    have s3 := (sG.trans (same_upd (o := .lst [.int (lstZ p)]) he)).trans (same_upd (o := .lst (((List.range p).map (fun x : Nat => (x : Int) * ((p : Int) + 1) + p)).map V.int ++ [.int (lstZ p)])) hl)
    refine ⟨l, _, rfl, .inl ⟨SqL.of upd_same, fun t ht => ?_⟩⟩
    refine q t _ _ (s3.trans (same_upd ht)) (s3.free ht) ?_ (List.Perm.of_eq ?_) (setL_up1 p)
    · rw [List.map_append]
      exact SqT.of upd_same
    · unfold setL
      rw [if_pos c']
  have c1 : ¬ n = lstZ p := fun z => c (decide_eq_true z)
  refine ⟨_, rfl, _, rfl, p, n, rfl, pt, _, rfl, ?_⟩
  refine ite2 (fun c2 => ?_) (fun c2 => ?_)
  · refine ⟨_, rfl, _, rfl, by omega, by omega, fun D hD => ?_⟩
    refine lc_range (lo := 0) (n := ((p : Int)).toNat) (fun i G => Same H G ∧ G D = some (.lst (((List.range i).map (fun x : Nat => n + (x : Int))).map V.int))) ⟨same_upd hD, upd_same⟩ ?_ ?_
    · rintro i G hi ⟨sG, kD⟩
      refine ⟨rfl, lc_yes ?_⟩
      refine ⟨_, rfl, _, rfl, _, _, rfl, rfl, ?_⟩
      rw [Int.zero_add]
      refine ⟨_, kD, ?_, fun c o e => ?_, ?_⟩
      · rw [List.length_map, List.length_map, List.length_range]
        exact big (by omega)
      · rw [upd_ne (ne_of_none e hD)]
        exact sG _ _ e
      · rw [List.range_succ, List.map_append, List.map_append]
        exact upd_same
    rintro G ⟨sG, kD⟩
    rw [Int.toNat_natCast] at kD
    refine ⟨_, rfl, p, rfl, pt, ?_⟩
    refine ⟨by show 1 ≤ sizeLine; decide, fun e he => ?_⟩
    have de : D ≠ e := ne_of_none kD he
    refine ⟨_, _, _, _, rfl, rfl, (upd_ne de).trans kD, upd_same, ?_, fun l hl => ?_⟩
    · rw [List.length_map, List.length_map, List.length_range, List.length_singleton]
      exact Nat.le_trans (show _ ≤ 10000 by omega) (by decide)
    have s3 := (sG.trans (same_upd (o := .lst [.int (lstZ p)]) he)).trans (same_upd (o := .lst (((List.range p).map (fun x : Nat => n + (x : Int))).map V.int ++ [.int (lstZ p)])) hl)
    refine ⟨l, _, rfl, .inl ⟨SqL.of upd_same, fun t ht => ?_⟩⟩
    refine q t _ _ (s3.trans (same_upd ht)) (s3.free ht) ?_ (List.Perm.of_eq ?_) (setL_up2 n0 n1 c1 c2)
    · rw [List.map_append]
      exact SqT.of upd_same
    · unfold setL
      rw [if_neg c1, if_pos c2]
  · refine ⟨_, rfl, _, rfl, by omega, by omega, fun D hD => ?_⟩
    refine lc_range (lo := 0) (n := ((p : Int)).toNat) (fun i G => Same H G ∧ G D = some (.lst (((List.range i).map (fun x : Nat => sOver p n (x : Int))).map V.int))) ⟨same_upd hD, upd_same⟩ ?_ ?_
    · rintro i G hi ⟨sG, kD⟩
      refine ⟨rfl, lc_yes ?_⟩
      refine ⟨_, rfl, _, rfl, _, rfl, p, n, _, rfl, hp, by omega, by omega, fun G2 s2 => ?_⟩
      rw [Int.zero_add]
      have kD := s2 _ _ kD
      have sG := sG.trans s2
      refine ⟨_, kD, ?_, fun c o e => ?_, ?_⟩
      · rw [List.length_map, List.length_map, List.length_range]
        exact big (by omega)
      · rw [upd_ne (ne_of_none e hD)]
        exact sG _ _ e
      · rw [List.range_succ, List.map_append, List.map_append]
        exact upd_same
    rintro G ⟨sG, kD⟩
    rw [Int.toNat_natCast] at kD
    refine ⟨_, rfl, _, rfl, p, n, rfl, pt, ?_⟩
    refine ⟨by show 1 ≤ sizeLine; decide, fun e he => ?_⟩
    have de : D ≠ e := ne_of_none kD he
    refine ⟨_, _, _, _, rfl, rfl, (upd_ne de).trans kD, upd_same, ?_, fun l hl => ?_⟩
    · rw [List.length_map, List.length_map, List.length_range, List.length_singleton]
      exact Nat.le_trans (show _ ≤ 10000 by omega) (by decide)
    have s3 := (sG.trans (same_upd (o := .lst [.int (farS p n)]) he)).trans (same_upd (o := .lst (((List.range p).map (fun x : Nat => sOver p n (x : Int))).map V.int ++ [.int (farS p n)])) hl)
    have eS : setL p n = (List.range p).map (fun x : Nat => sOver p n (x : Int)) ++ [farS p n] := by
      unfold setL
      rw [if_neg c1, if_neg c2]
    refine ⟨l, setL p n, rfl, ?_, fun us l2 pe up hl2 => ?_⟩
    · rw [eS, List.map_append]
      exact SqL.of upd_same
    refine ⟨l2, _, rfl, .inl ⟨SqL.of upd_same, fun t ht => ?_⟩⟩
    exact q t us _ ((s3.trans (same_upd hl2)).trans (same_upd ht)) (s3.free ((same_upd hl2).free ht)) (SqT.of upd_same) pe (up_of (pe.nodup_iff.mpr (setL_nd hp n0 n1)) up)
end

end G0
namespace G0
open PySem PySem.Spec PyProof.Rows L2
section
variable {P : Program} {w : World} {K : PySem.W.Frag} {mg : Str → Option Value} {base : Heap}
/-! ### primes and numbers, as the law draws them -/
def spWh : Sp := fun vs H Q _ => ∃ x : Int, vs = [.int x] ∧ Q (.bl true) H
theorem sc_law_whole : FnScope ["thing"] ["thing"] (defScope s_law_whole) :=
  ⟨rfl, rfl, rfl, by decide +kernel, rfl, by decide +kernel, by decide +kernel⟩
theorem ok_wh (F : Fn K mg "_law_whole" s_law_whole) (T : Bl51 mg) : Cal P w K mg base "_law_whole" 1 ["thing"] spWh := by
  refine cal_of F sc_law_whole
    (fun _ _ _ _ _ _ us hl => match us, hl with | [_], _ => rfl) ?_ ?_
  · rintro vs H Q E ⟨x, rfl, _⟩
    rfl
  rintro f cdv A outer s H vs Q E free hr ⟨x, rfl, q⟩
  refine ⟨_, (pss_one (ps_ret (pe_and (pe_callB call_isi (by rfl) T.isinstance (by decide +kernel) (pa_cons (pv 0) (pa_cons (pe_bltn (v := .ty "int") (by rfl) T.int (by decide +kernel) rfl) pa_nil))) (pe_one (pe_not (pe_callB call_isi (by rfl) T.isinstance (by decide +kernel) (pa_cons (pv 0) (pa_cons (pe_bltn (v := .ty "bool") (by rfl) T.bool (by decide +kernel) rfl) pa_nil)))))))), ?_⟩
  refine ⟨_, rfl, _, .ty "int", _, _, _, rfl, .ty _, .base (.int x), kit_ty (r := true) (by decide +kernel), _, rfl, iteT' rfl ?_⟩
  exact ⟨_, rfl, _, .ty "bool", _, _, _, rfl, .ty _, .base (.int x), kit_ty (r := false) (by decide +kernel), _, rfl, q⟩
def spIsP : Sp := fun vs H Q _ => ∃ n : Nat, vs = [.int (n : Int)] ∧ Q (.bl (isP n)) H
theorem sc_law_is_prime : FnScope ["number", "part"] ["number"] (defScope s_law_is_prime) :=
  ⟨rfl, rfl, rfl, by decide +kernel, rfl, by decide +kernel, by decide +kernel⟩
theorem ok_isp (F : Fn K mg "_law_is_prime" s_law_is_prime) (T : Bl51 mg) : Cal P w K mg base "_law_is_prime" 1 ["number"] spIsP := by
  refine cal_of F sc_law_is_prime
    (fun _ _ _ _ _ _ us hl => match us, hl with | [_], _ => rfl) ?_ ?_
  · rintro vs H Q E ⟨x, rfl, _⟩
    rfl
  rintro f cdv A outer s H vs Q E free hr ⟨n, rfl, q⟩
  refine ⟨_, (pss_cons (ps_for PassesOwn.never rfl (pi_range2 (by rfl) T.range (pa_cons pe_int (pa_cons pe_int pa_nil))) (pg_name (i := 1) sc_law_is_prime.nd rfl (Or.inl rfl))
    (pss_one (ps_if (PW.pt (pw_and (pt_cmpR op_le (pe_op op_mul (pv 1) (pv 1)) (pv 0) (nomark _)) (pw_and1 (pt_cmpR op_eq (pe_op op_mod (pv 0) (pv 1)) pe_int (nomark _)))))
    (pss_one (ps_ret pe_bl))
    pss_nil)))
    (pss_one (ps_ret pe_bl))), ?_⟩
  refine ⟨_, _, rfl, ⟨by decide, by decide, by decide, by decide⟩, ?_⟩
  refine for_range (lo := 2) (n := 98) (fun i σ G => G = H ∧ (∃ z : Option V, σ = [some (V.int (n : Int)), z]) ∧ ((List.range i).all fun i => !(decide ((i + 2) * (i + 2) ≤ n) && decide (n % (i + 2) = 0))) = true) ⟨rfl, ⟨_, rfl⟩, rfl⟩ ?_ ?_
  · rintro i σ G hi ⟨rfl, ⟨z, rfl⟩, al⟩
    refine ⟨_, rfl, _, rfl, _, _, rfl, rfl, .inl ⟨by omega, by omega⟩, _, rfl, _, _, rfl, rfl, _, rfl, ?_⟩
    have e1 : ∀ {c : Bool}, c = decide ((2 + (i : Int)) * (2 + (i : Int)) ≤ (n : Int)) → c = decide ((i + 2) * (i + 2) ≤ n) := fun h => by
      rw [h]
      refine decide_eq_decide.mpr ?_
      have z : (((i + 2) * (i + 2) : Nat) : Int) = (2 + (i : Int)) * (2 + (i : Int)) := by rw [Int.natCast_mul]; congr 1 <;> omega
      omega
    have e2 : decide (V.int ((n : Int) % (2 + (i : Int))) = V.int 0) = decide (n % (i + 2) = 0) := by
      rw [dec_ii]
      refine decide_eq_decide.mpr ?_
      have z : ((n % (i + 2) : Nat) : Int) = (n : Int) % (2 + (i : Int)) := by rw [Int.natCast_emod]; congr 1; omega
      omega
    have go : ∀ c : Bool, c = (decide ((i + 2) * (i + 2) ≤ n) && decide (n % (i + 2) = 0)) → c = false → ((List.range (i + 1)).all fun i => !(decide ((i + 2) * (i + 2) ≤ n) && decide (n % (i + 2) = 0))) = true := fun c h1 h2 => by
      rw [List.range_succ, List.all_append, al, List.all_cons, ← h1, h2]
      rfl
    have bad : ∀ c : Bool, c = (decide ((i + 2) * (i + 2) ≤ n) && decide (n % (i + 2) = 0)) → c = true → isP n = false := fun c h1 h2 => by
      cases h : isP n with
      | false => rfl
      | true =>
        unfold isP at h
        have := List.all_eq_true.mp h i (List.mem_range.mpr hi)
        rw [← h1, h2] at this
        cases this
    refine ite2 (fun c => ?_) (fun c => ?_)
    · have c1 := e1 c.symm
      refine ⟨_, rfl, _, rfl, _, _, rfl, rfl, (by show (0 : Int) < 2 + (i : Int); omega), rfl, _, rfl, ?_⟩
      rw [e2]
      refine ite2 (fun c2 => ?_) (fun c2 => ?_)
      · rw [bad true (by rw [← c1, c2]; rfl) rfl] at q
        exact q
      · exact ⟨rfl, ⟨_, rfl⟩, go false (by rw [← c1]; simpa using c2) rfl⟩
    · have c1 := e1 (c := false) (by simpa using c)
      exact iteF' rfl ⟨rfl, ⟨_, rfl⟩, go false (by rw [← c1]; rfl) rfl⟩
  · rintro σ G ⟨rfl, ⟨z, rfl⟩, al⟩
    rw [show isP n = true from al] at q
    exact q
def spPrime (K : PySem.W.Frag) : Sp := fun vs H Q _ => ∃ (H0 : Hp) (s p : Addr) (ns : List Int) (n : Nat), vs = [.ref s, .ref p] ∧ Fd K H0 s p ns n H ∧ n < 100000000 ∧
  ∀ (r : Nat) H', Pr r → Fd K H0 s p ns (n + 2) H' → Chg p H H' → Q (.int (r : Int)) H'
theorem pr_small {d : Int} (h0 : 0 ≤ d) (h1 : d < 8) : ∃ r : Nat, atI [V.int 2, .int 3, .int 5, .int 7, .int 11, .int 13, .int 17, .int 19] d = some (.int (r : Int)) ∧ Pr r := by
  have ok : ∀ r ∈ [2, 3, 5, 7, 11, 13, 17, 19], Pr r := fun r m => by
    have : 2 ≤ r ∧ r ≤ 9973 ∧ isP r = true := by
      have all : ([2, 3, 5, 7, 11, 13, 17, 19].all fun r => decide (2 ≤ r) && decide (r ≤ 9973) && isP r) = true := by decide +kernel
      have := List.all_eq_true.mp all r m
      simp only [Bool.and_eq_true, decide_eq_true_eq] at this
      exact ⟨this.1.1, this.1.2, this.2⟩
    exact pr_of this.1 this.2.1 this.2.2
  have : d = 0 ∨ d = 1 ∨ d = 2 ∨ d = 3 ∨ d = 4 ∨ d = 5 ∨ d = 6 ∨ d = 7 := by omega
  rcases this with rfl | rfl | rfl | rfl | rfl | rfl | rfl | rfl
  · exact ⟨2, rfl, ok 2 (by simp)⟩
  · exact ⟨3, rfl, ok 3 (by simp)⟩
  · exact ⟨5, rfl, ok 5 (by simp)⟩
  · exact ⟨7, rfl, ok 7 (by simp)⟩
  · exact ⟨11, rfl, ok 11 (by simp)⟩
  · exact ⟨13, rfl, ok 13 (by simp)⟩
  · exact ⟨17, rfl, ok 17 (by simp)⟩
  · exact ⟨19, rfl, ok 19 (by simp)⟩
theorem sc_law_prime : FnScope ["script", "pot", "small", "number", "k"] ["script", "pot"] (defScope s_law_prime) :=
  ⟨rfl, rfl, rfl, by decide +kernel, rfl, by decide +kernel, by decide +kernel⟩
theorem ok_prime (F : Fn K mg "_law_prime" s_law_prime) (T : Bl51 mg) (C_take : Cal P w K mg base "_law_take" 2 ["script", "pot", "many"] (spTake K)) (C_is_prime : Cal P w K mg base "_law_is_prime" 1 ["number"] spIsP) : Cal P w K mg base "_law_prime" 3 ["script", "pot"] (spPrime K) := by
  refine cal_of F sc_law_prime
    (fun _ _ _ _ _ _ us hl => match us, hl with | [_, _], _ => rfl) ?_ ?_
  · rintro vs H Q E ⟨H0, s, p, ns, n, rfl, _⟩
    rfl
  rintro f cdv A outer s' H vs Q E free hr ⟨H0, s, p, ns, n, rfl, D, nb, q⟩
  refine ⟨_, (pss_cons (ps_set (i := 2) sc_law_prime.nd rfl (Or.inl rfl) (pe_lst (pa_cons pe_int (pa_cons pe_int (pa_cons pe_int (pa_cons pe_int (pa_cons pe_int (pa_cons pe_int (pa_cons pe_int (pa_cons pe_int pa_nil))))))))))
    (pss_cons (ps_if (pt_cmpR op_eq (pe_cal C_take free (hr.mono (by decide)) (pa_cons (pv 0) (pa_cons (pv 1) (pa_cons pe_int pa_nil)))) pe_int (nomark _))
    (pss_one (ps_ret (pe_ix ix_list (pv 2) (pe_cal C_take free (hr.mono (by decide)) (pa_cons (pv 0) (pa_cons (pv 1) (pa_cons pe_int pa_nil)))) (fun _ _ => rfl))))
    pss_nil)
    (pss_cons (ps_set (i := 3) sc_law_prime.nd rfl (Or.inl rfl) (pe_op op_add pe_int (pe_cal C_take free (hr.mono (by decide)) (pa_cons (pv 0) (pa_cons (pv 1) (pa_cons pe_int pa_nil))))))
    (pss_cons (ps_for PassesOwn.never rfl (pi_range1 (by rfl) T.range (pa_cons pe_int pa_nil)) (pg_name (i := 4) sc_law_prime.nd rfl (Or.inl rfl))
    (pss_one (ps_if (pt_not (pt_val (pe_cal C_is_prime free (hr.mono (by decide)) (pa_cons (pv 3) pa_nil))))
    (pss_one (ps_set (i := 3) sc_law_prime.nd rfl (Or.inl rfl) (pe_op op_add (pv 3) pe_int)))
    pss_nil)))
    (pss_one (ps_ret (pv 3))))))), ?_⟩
  refine ⟨by show 8 ≤ sizeLine; decide, fun l hl => ?_⟩
  have s1 := same_upd (o := .lst [.int 2, .int 3, .int 5, .int 7, .int 11, .int 13, .int 17, .int 19]) hl
  have lp := D.ne hl
  refine ⟨_, rfl, _, rfl, H0, s, p, ns, n, 2, rfl, D.same s1, by omega, by decide, by decide, fun d y d0 d1 Y => ?_⟩
  have D1 := (D.same s1).put Y
  have c1 : Chg p H _ := (Chg.same s1).trans (Chg.self (o := .lst y))
  refine ⟨rfl, _, rfl, ?_⟩
  rw [dec_ii]
  refine ite2 (fun c => ?_) (fun c => ?_)
  · refine ⟨_, rfl, _, rfl, _, rfl, H0, s, p, ns, n + 1, 8, rfl, D1, by omega, by decide, by decide, fun d2 y2 d20 d21 Y2 => ?_⟩
    obtain ⟨r, er, pr⟩ := pr_small d20 d21
    exact ⟨l, _, d2, _, rfl, rfl, SqL.of ((upd_ne lp).trans ((upd_ne lp).trans upd_same)), er, q r _ pr (D1.put Y2) (c1.trans Chg.self)⟩
  · refine ⟨_, rfl, _, rfl, H0, s, p, ns, n + 1, 9972, rfl, D1, by omega, by decide, by decide, fun d2 y2 d20 d21 Y2 => ⟨_, _, rfl, rfl, ?_⟩⟩
    obtain ⟨u, hu⟩ : ∃ u : Nat, (2 + d2) = (u : Int) := ⟨(2 + d2).toNat, by omega⟩
    obtain ⟨v, v0, v1, v2, v3⟩ := next_prime (n := u) (by omega) (by omega)
    obtain ⟨G0, hG0⟩ : ∃ G0, G0 = upd (upd (upd H l (.lst [.int 2, .int 3, .int 5, .int 7, .int 11, .int 13, .int 17, .int 19])) p (.lst y)) p (.lst y2) := ⟨_, rfl⟩
    rw [← hG0]
    show gName 3 (V.int (2 + d2)) _ G0 _
    rw [hu]
    have D2 : Fd K H0 s p ns (n + 2) G0 := by rw [hG0]; exact D1.put Y2
    have c2 : Chg p H G0 := by rw [hG0]; exact c1.trans Chg.self
    refine ⟨_, rfl, by omega, by omega, ?_⟩
    refine for_range (lo := 0) (n := 40) (fun i σ G => G = G0 ∧ ∃ (z : Option V) (m : Nat), σ = [some (V.ref s), some (V.ref p), some (V.ref l), some (V.int (m : Int)), z] ∧ u ≤ m ∧ m ≤ v ∧ (isP m = true ∨ m = u + i)) ⟨rfl, _, u, rfl, by omega, by omega, .inr rfl⟩ ?_ ?_
    · rintro i σ G hi ⟨rfl, z, m, rfl, um, mv, h⟩
      refine ⟨_, rfl, m, rfl, _, rfl, ?_⟩
      refine ite2 (fun c => ?_) (fun c => ?_)
      · have np : ¬ isP m = true := by simpa using c
        have ne : m ≠ v := fun z => np (by rw [z]; exact v2)
        refine ⟨_, rfl, _, _, rfl, rfl, rfl, some (V.int (0 + (i : Int))), m + 1, rfl, by omega, by omega, .inr (by rcases h with h | h; exact absurd h np; omega)⟩
      · have yp : isP m = true := by simpa using c
        exact ⟨rfl, _, m, rfl, um, mv, .inl yp⟩
    · rintro σ G ⟨rfl, z, m, rfl, um, mv, h⟩
      refine ⟨_, rfl, q m _ (pr_of (by omega) (by omega) ?_) D2 c2⟩
      rcases h with h | h
      · exact h
      · omega
end

end G0
/-! A def with the cell __class__: its first statement says super().__init__(..). -/
namespace G0
open PySem PySem.Spec PyProof.Rows L2 NdefX
abbrev nfS (name qual : Str) (params : Arguments) (body : List Stmt) (scope : Scope) (cc cda : Addr) : NF := ⟨name, qual, params, body, scope, [("__class__", cc)], cda⟩
/-- a statement whose code must be told -/
def P1 (X : Cx) (body : List Stmt) (st : Stmt) (t : TS) : Prop :=
  ∀ (pins : List (Addr × Obj)) (s : Shared) (σ : L2.St) (H : Hp) (D : Ends), Inv X pins σ H s → t D σ H →
    _root_.PySem.wpAt (model X.prog X.w) X.A (.func body X.env) (exec st X.env) (SP X pins D) X.xe s
theorem fnS_of {CX : CXT} {P : Program} {w : World} {K : PySem.W.Frag} {mg : Str → Option Value} {base : Heap} {k : Nat}
    {f cc cda : Addr} {name qual : Str} {params : Arguments} {st : Stmt} {body : List Stmt} {scope : Scope} {dV kV doc pm ct oc cl : Value} {v : Option Value}
    {an od cld : Option Addr} {osl csl : Array (Option Value)} {N ps : List Str} {sp : Sp}
    (lk : K.lookup f = some ⟨oc, od, .func (PySem.W.ksFn name qual params (st :: body) scope dV kV doc pm an (.ref cda) ct cc), osl⟩)
    (coded : PySem.W.codeIn K (.ref cda) qual = true) (lc : K.lookup cc = some ⟨cl, cld, .cell v, csl⟩) (S : NScope N ps ["__class__"] scope)
    (len : ∀ zs G R W, sp zs G R W → zs.length = ps.length)
    (inner : ∀ (A : Around) (outer : List Env) (s : Shared) (H : Hp) (vs : List V) (Q : VK) (E : XK),
      Room k (A.deeper (envF (nfS name qual params (st :: body) scope cc cda) f s.heap.objs.size)) → sp vs H Q E →
      ∃ t1 t2, P1 (ncx CX P w K mg base N (nfS name qual params (st :: body) scope cc cda) f A outer s H E) (st :: body) st t1 ∧
        PSs (ncx CX P w K mg base N (nfS name qual params (st :: body) scope cc cda) f A outer s H E) body t2 ∧
        t1 { nx := fun σ' H' => t2 { nx := fun _ H' => Q .non H', rt := Q } σ' H', rt := Q } (startF N vs [none]) H) :
    FnOk P w K mg base CX (k + 1) f (PySem.W.ksFn name qual params (st :: body) scope dV kV doc pm an (.ref cda) ct cc) ps sp := by
  refine ⟨len, fun A outer s H given us vs Q E hr e0 bd r hsp => ?_⟩
  have hl := len _ _ _ _ hsp
  have KX : K.In s.heap := e0.mod.kin.keeps fun b o z => (e0.bs b o z).1
  have lim : s.heap.NoLimit := e0.mod.nolimit.keeps fun b o e => (e0.bs b o e).1
  have CA : CellsAt [("__class__", cc)] ["__class__"] [none] s.heap H := {
    len := rfl
    all := fun y c e => by
      have : c = cc := by
        simp only [List.lookup] at e
        split at e
        · exact (Option.some.inj e).symm
        · cases e
      subst this
      exact ⟨(e0.bs _ _ (e0.mod.kin _ _ lc)).2, v, ⟨_, KX _ _ lc, rfl⟩⟩
    inj := fun x y c h1 h2 => by
      have q : ∀ z c', List.lookup z [(("__class__" : Str), cc)] = some c' → z = "__class__" := fun z c' e => by
        simp only [List.lookup] at e
        split at e
        · rename_i h
          exact beq_iff_eq.mp h
        · cases e
      rw [q _ _ h1, q _ _ h2]
    has := fun i y e => by
      match i, e with
      | 0, e =>
        cases e
        exact ⟨cc, rfl, fun v h => by cases h⟩
      | i + 1, e => cases e }
  refine codeAny_call_function hr.depth (KX _ _ lk) rfl S.co S.gen rfl (PySem.W.codeRec_of KX coded) (bd _ _ _ _ ?_)
  refine wpAny_newFunctionEnv S.nocell (fun ⟨n, _⟩ hy => S.par n (List.of_mem_zip hy).1) (fun h₁ hns hsb => ⟨lim.fresh _ hsb, ?_⟩) S.kind
  show codeAny _ _ (.func (st :: body) (envF (nfS name qual params (st :: body) scope cc cda) f s.heap.objs.size)) _ _
  refine PySem.ks_codeAny_funcAt ?_
  have kp : ∀ b o, s.heap.get? b = some o → h₁.get? b = some o := fun b o e => hsb.extBut b o (Nat.ne_of_lt (Heap.lt_size e)) (Heap.get?_push_of_some _ e)
  obtain ⟨t1, t2, h1, h2, hq⟩ := inner A outer s H vs Q E (hr.deeper _) hsp
  have I : Inv (ncx CX P w K mg base N (nfS name qual params (st :: body) scope cc cda) f A outer s H E) [] (startF N vs [none]) H { s with heap := h₁, toks := s.toks + (ps.zip us).length } := inv_startN S hr.hd e0 hl r CA hns kp
  have fin : ∀ {σ' : L2.St} {H' : Hp} {v : V} {u : Value} {s' : Shared}, Inv (ncx CX P w K mg base N (nfS name qual params (st :: body) scope cc cda) f A outer s H E) [] σ' H' s' → L2.RelV v u → Q v H' → CE outer P w H s Q u s' :=
    fun {σ' H' v u s'} J rv q => ⟨v, H', J.os, J.bare, J.base, J.hok, rv, q⟩
  refine PySem.ks_wpAt_execs_cons (PySem.ks_wpAt_mono (h1 [] _ (startF N vs [none]) H _ I hq) (fun fl s' hs => ?_) fun e s' hs => hs)
  match fl, hs with
  | .ret u, ⟨v, σ', H', J, rv, q⟩ => exact fin J rv q
  | .brk, ⟨_, _, _, q⟩ => exact False.elim q
  | .cont, ⟨_, _, _, q⟩ => exact False.elim q
  | .next, ⟨σ', H', J, q⟩ =>
    refine _root_.PySem.wpAt_of_wpAny (wpAny_mono (h2.run [] _ σ' H' _ J q) (fun fl s' hs => ?_) fun e s' hs => hs)
    match fl, hs with
    | .ret u, ⟨v, σ', H', J, rv, q⟩ => exact fin J rv q
    | .next, ⟨σ', H', J, q⟩ => exact fin (v := V.non) (u := Value.none) J rfl q
    | .brk, ⟨_, _, _, q⟩ => exact False.elim q
    | .cont, ⟨_, _, _, q⟩ => exact False.elim q
end G0
namespace G0
open PySem PySem.Spec PyProof.Rows L2 NdefX
/-- what super() without arguments asks of the text and the written part -/
structure SupF (P : Program) (K : PySem.W.Frag) (N : List Str) (f cc cda D : Addr) (fd : FuncData) (params : Arguments) (scope : Scope) : Prop where
  fun_ : ∃ oc od osl, K.lookup f = some ⟨oc, od, .func fd, osl⟩ ∧ fd.params = params
  arg : ∃ ar : Arg, (params.posonlyargs ++ params.args).head? = some ar ∧ N[0]? = some ar.arg ∧ scope.names.lookup ar.arg = some .local
  code : ∃ ccl cdd vs ccs file tf, K.lookup cda = some ⟨ccl, cdd, .fields vs, ccs⟩ ∧ vs[2]? = some (.str file tf) ∧ ((P.main.file : Str) == file) = true
  cell : ∃ cl cld csl, K.lookup cc = some ⟨cl, cld, .cell (some (.ref D)), csl⟩
  cls : ∃ cdD, PySem.W.clsIn K D = some cdD
  miss : PySem.W.nsIn K mainGlobals "super" = some none
  sup : scope.names.lookup ("super" : Str) = some .globalImplicit
  own : scope.names.lookup ("__class__" : Str) = some .free
  kind : scope.kind = .function
  top : (P.main.scope.names.lookup ("super" : Str)).isSome = false
  any_ : PySem.W.nsIn K cStatics "thirdparty.any" = some none
/-- super() is made: an object of its own, held by a pin -/
theorem sup_node {CX : CXT} {P : Program} {w : World} {K : PySem.W.Frag} {mg : Str → Option Value} {base : Heap} {N : List Str}
    {f cc cda D a C : Addr} {name qual : Str} {params : Arguments} {st : List Stmt} {scope : Scope} {fd : FuncData}
    {A : Around} {outer : List Env} {s0 : Shared} {H0 : Hp} {E : XK} {pins : List (Addr × Obj)} {s : Shared} {σ : L2.St} {H : Hp} {p0 p1 : Pos} {attr : Str} {whole : Sem Value} {Q : Value → Shared → Prop} {EE : Value → Shared → Prop} {ox : Obj} {odx : Option Obj}
    (F : SupF P K N f cc cda D fd params scope)
    (I : Inv (ncx CX P w K mg base N (nfS name qual params st scope cc cda) f A outer s0 H0 E) pins σ H s) (hs : σ[0]? = some (some (.ref a)))
    (J : PySem.W.InstAt s.heap a ox C odx) (hsub : PySem.W.mroIn K C (.ref D) = some true) (hat : (attr == ("__class__" : Str)) = false)
    (h : ∀ h', (∀ b o, s.heap.get? b = some o → h'.get? b = some o) → h'.get? s.heap.objs.size = some (PySem.W.ks_superObj D a C) → Q (.ref s.heap.objs.size) { s with heap := h' }) :
    _root_.PySem.wpAt (model P w) (A.deeper (envF (nfS name qual params st scope cc cda) f s0.heap.objs.size)) (.func st (envF (nfS name qual params st scope cc cda) f s0.heap.objs.size))
      (attributeBase (.Call (.Name "super" p0) [] [] p1) attr (envF (nfS name qual params st scope cc cda) f s0.heap.objs.size) whole) Q EE s := by
  obtain ⟨oc, od, osl, hf, hpar⟩ := F.fun_
  obtain ⟨ar, hp, hN, hka⟩ := F.arg
  obtain ⟨ccl, cdd, vs, ccs, file, tf, hcode, hvs, hfile⟩ := F.code
  obtain ⟨cl, cld, csl, hcell⟩ := F.cell
  obtain ⟨cdD, hD⟩ := F.cls
  have X : K.In s.heap := I.kIn
  have M : Mod K mg base := I.mod
  obtain ⟨mb, hb, hboot⟩ := M.blt
  obtain ⟨m, hns, hlook⟩ := I.loc
  obtain ⟨u, ru, look⟩ := hlook 0 ar.arg (.ref a) hN hs (.inl hka)
  have ru : u = Value.ref a := ru
  subst ru
  have hv : m ar.arg = some (.ref a) := by
    rcases look with ⟨_, e⟩ | ⟨e, _⟩
    · exact e
    · exfalso
      have e : scope.names.lookup ar.arg = some .cell ∨ scope.names.lookup ar.arg = some .free := e
      rw [hka] at e
      rcases e with e | e <;> cases e
  have kb : ∀ b o, base.get? b = some o → s.heap.get? b = some o := I.bk
  obtain ⟨hh, g, d, t, os⟩ := s
  obtain ⟨oD, hD1, hD2⟩ : ∃ oD, hh.get? D = some oD ∧ oD.data = .cls cdD := by
    unfold PySem.W.clsIn at hD
    split at hD
    · rename_i c d cd' sl ho
      cases hD
      exact ⟨_, X _ _ ho, rfl⟩
    · cases hD
  subst hpar
  refine PySem.ks_wpAt_super_base F.sup F.own hat rfl (X _ _ hf) rfl hp rfl (X _ _ hcode) rfl hvs hfile F.top ?_
  refine PySem.W.ks_loadName_global F.kind F.sup (PySem.Calls.loadGlobal_builtin (M.glob.keeps kb) (PySem.W.mg_none_of M.kin M.glob F.miss) (hb.keeps kb) ((hboot _ (by decide +kernel)).trans (show bootBuiltins "super" = some (.type "super") by first | rfl | decide +kernel)) ⟨rfl, ?_⟩)
  refine wpAny_loadName_free F.kind F.own rfl ⟨_, X _ _ hcell, rfl⟩ ?_
  refine wpAny_loadName_local F.kind hka hns hv ?_
  refine PySem.ks_wpAny_isType_cls hD1 hD2 ⟨rfl, ?_⟩
  refine PySem.ks_wpAny_call_super hD1 hD2 J.at_ J.cls (fun c e => ?_) (PySem.W.looks_mroIn X hsub) (fun h' e k => h h' k e)
  have := J.no
  unfold PySem.W.notCls at this
  rw [e] at this
  exact Bool.noConfusion this
end G0
namespace G0
open PySem PySem.Spec PyProof.Rows L2 NdefX
section
variable {prog : Program} {w : World} {A : Around} {E : Value → Shared → Prop} {h : Heap} {g : Array GenState} {d : Drawn} {t : Nat} {os : OsState}
/-- a bound ValueError.__init__ is called: the exception's arguments are laid anew -/
theorem mw_code {nm q : Str} {C N : Addr} {bs bm : List Value} {hdct : Bool} {sn : List Str} {sub : List Value} {ab : Bool} {col : Option Bool} {dd : Option Addr} {k0 k1 k2 k3 k5 : Option Value} {u e t0 : Addr} {rest : List Value} {Q : Value → Shared → Prop}
    (hC : h.get? C = some (excClassObj nm q C N bs bm hdct sn sub ab col dd k0 k1 k2 k3 k5 "ValueError.__new__")) (he : h.get? e = some (PySem.HandSPX.excO C t0)) (hu : h.get? u = some (PySem.W.kxs_mw "ValueError.__init__" e)) (few : rest.length ≤ sizeLine)
    (k : ∀ h' t1, (∀ b o, b ≠ e → h.get? b = some o → h'.get? b = some o) → h'.get? e = some (PySem.HandSPX.excO C t1) → Q .none ⟨h', g, d, t, os⟩) :
    wpAny (model prog w) A (call (.ref u) rest) Q E ⟨h, g, d, t, os⟩ := by
  refine wpAny_call (codeAny_of_tree ?_)
  show wpAny _ A.in1 (callAny (.ref u) ⟨rest, []⟩) _ _ _
  simp only [callAny]
  refine wpAny_bind (wpAny_load hu ?_)
  simp only [PySem.W.kxs_mw, show (Value.type "method-wrapper" == Value.type "method" || Value.type "method-wrapper" == Value.type "builtin_function_or_method" || Value.type "method-wrapper" == Value.type "method-wrapper") = true by decide, if_true]
  refine PySem.W.KFB.if_so (by decide) ?_
  refine wpAny_bind (PySem.ESX.check_bound PySem.F.excBase_ValueError hC he rfl ?_)
  refine wpAny_bind (wpAny_pure (wpAny_pure ?_))
  refine ⟨Code.quiet_builtin _ (by decide +kernel), codeAny_builtin PySem.F.excBase_ValueError.initEntry ?_⟩
  rw [Around.under_plainId PySem.F.excBase_ValueError.init.plain _]
  wp_walk
  refine k _ h.objs.size (fun b o hb ho => ?_) ?_
  · rw [Heap.get?_update_other _ _ (Ne.symm hb)]
    exact Heap.get?_push_of_some _ ho
  · rw [Heap.get?_update_self _ (Heap.get?_push_of_some _ he) rfl]
    rfl
end
section
variable {X : Cx} {pins : List (Addr × Obj)} {σ : L2.St} {H : Hp} {s : Shared} {a C u : Addr} {us : List Value} {Q : Value → Shared → Prop} {E : Value → Shared → Prop} {A : Around}
theorem mw_ok (T : OexC X.K C) (I : Inv X pins σ H s) (e : H a = some (exo a C none)) (hu : s.heap.get? u = some (PySem.W.kxs_mw "ValueError.__init__" a)) (hl : us.length ≤ sizeLine) (k : ∀ s', Inv X pins σ H s' → Q .none s') :
    wpAny (model X.prog X.w) A (call (.ref u) us) Q E s := by
  obtain ⟨nm, q, N, bs, bm, sn, sub, ab, col, dd, k0, k1, k2, k3, k5, hC, hbm⟩ := T.cls
  obtain ⟨t1, ho⟩ := exo_at I.hok e
  obtain ⟨hp, g, d, t, os⟩ := s
  refine mw_code (I.kIn _ _ hC) ho hu hl fun h' t2 keep hx => ?_
  have J := I.write (t' := t) (x := a) (e := a) (o := exo a C none) (by rw [e]; exact True.intro) (.inl rfl) keep ⟨_, hx⟩ (exo_ok hx)
  have eu : upd H a (exo a C none) = H := by
    funext b
    by_cases hb : b = a
    · rw [hb, upd_same, e]
    · rw [upd_ne hb]
  rw [eu] at J
  exact k _ J
end
end G0
namespace G0
open PySem PySem.Spec PyProof.Rows L2 NdefX
/-- super().__init__(..) of an own exception -/
def tSupX (K : PySem.W.Frag) (D : Addr) (ta : TA) : TS := fun Dn σ H => ∃ a C : Addr, σ[0]? = some (some (.ref a)) ∧ OexC K C ∧ H a = some (exo a C none) ∧ PySem.W.mroIn K C (.ref D) = some true ∧
  PySem.W.ks_superIn K C D "__init__" = some (some (.builtin "ValueError.__init__")) ∧ PySem.W.subIn K (.ref C) (.type "ValueError") = some true ∧
  ta σ H fun vs H1 => vs.length ≤ 1000 ∧ H1 a = some (exo a C none) ∧ Dn.nx σ H1
theorem p1_supX {CX : CXT} {P : Program} {w : World} {K : PySem.W.Frag} {mg : Str → Option Value} {base : Heap} {N : List Str}
    {f cc cda D : Addr} {name qual : Str} {params : Arguments} {st : List Stmt} {scope : Scope} {fd : FuncData}
    {A : Around} {outer : List Env} {s0 : Shared} {H0 : Hp} {E : XK} {p0 p1 ap pos pos' : Pos} {e : Expr} {es : List Expr} {ta : TA} {pl : Sem Bool}
    (F : SupF P K N f cc cda D fd params scope) (ha : PA (ncx CX P w K mg base N (nfS name qual params st scope cc cda) f A outer s0 H0 E) (e :: es) ta)
    (he : starEach (e :: es) (envF (nfS name qual params st scope cc cda) f s0.heap.objs.size) = (false, eval e (envF (nfS name qual params st scope cc cda) f s0.heap.objs.size)) :: starEach es (envF (nfS name qual params st scope cc cda) f s0.heap.objs.size) := by rfl)
    (hpl : (backTo pos (starEach es (envF (nfS name qual params st scope cc cda) f s0.heap.objs.size))).any (·.1) = false := by rfl)
    (hsw : swapsWith (.Call (.Attribute (.Call (.Name "super" p0) [] [] p1) "__init__" ap) (e :: es) [] pos) none pos'.line (envF (nfS name qual params st scope cc cda) f s0.heap.objs.size) = pure false := by rfl)
    (hev : eval (.Call (.Attribute (.Call (.Name "super" p0) [] [] p1) "__init__" ap) (e :: es) [] pos) (envF (nfS name qual params st scope cc cda) f s0.heap.objs.size) = (do
      let ov ← attributeBase (.Call (.Name "super" p0) [] [] p1) "__init__" (envF (nfS name qual params st scope cc cda) f s0.heap.objs.size) (eval (.Call (.Name "super" p0) [] [] p1) (envF (nfS name qual params st scope cc cda) f s0.heap.objs.size))
      standAt ap.atName
      let (f', first) ← holding [ov] (getMethod ov "__init__" pl)
      callWith pos f' first (backTo pos (starEach (e :: es) (envF (nfS name qual params st scope cc cda) f s0.heap.objs.size))) []) := by rfl) :
    P1 (ncx CX P w K mg base N (nfS name qual params st scope cc cda) f A outer s0 H0 E) st (.Expr (.Call (.Attribute (.Call (.Name "super" p0) [] [] p1) "__init__" ap) (e :: es) [] pos) pos') (tSupX K D ta) := by
  rintro pins s σ H Dn I ⟨a, C, hs, T, ea, hm, hsu, hve, q⟩
  obtain ⟨t0, ho⟩ := exo_at I.hok ea
  have J : PySem.W.InstAt s.heap a _ C none := ⟨ho, rfl, rfl, trivial⟩
  have fresh := I.hok.fresh (Nat.le_refl s.heap.objs.size)
  refine PySem.ks_wpAt_Expr_any (PySem.ks_wpAt_MethodCall (sup_node F I hs J hm (by decide) fun h' k e1 => ?_) hev) I.quiet hsw
  obtain ⟨hh, g, d, t, os⟩ := s
  have I1 : Inv (ncx CX P w K mg base N (nfS name qual params st scope cc cda) f A outer s0 H0 E) pins σ H ⟨h', g, d, t, os⟩ := I.kept (t' := t) k
  have X1 : K.In h' := I1.kIn
  obtain ⟨t1, ho1⟩ := exo_at I1.hok ea
  have J1 : PySem.W.InstAt h' a _ C none := ⟨ho1, rfl, rfl, trivial⟩
  have hI : PySem.W.Looks (model P w) h' (isInstance (.ref a) (.type "ValueError")) true := J1.type.andThen (PySem.W.looks_subIn X1 hve)
  cases hc : PySem.W.clsIn K C with
  | none => unfold PySem.W.ks_superIn at hsu; rw [hc] at hsu; cases hsu
  | some cd =>
    unfold PySem.W.ks_superIn at hsu
    rw [hc] at hsu
    refine PySem.W.kxs_getMethod PySem.W.kxs_ValueError e1 (PySem.W.looks_opaque X1 F.any_) (l₀ := cd.mro) (fun A Q E s k q => wpAny_bind ((PySem.W.looks_clsIn X1 hc) A _ E s k (wpAny_pure q))) rfl X1 hsu hI (PySem.W.ks_ne X1 J1 hc) (by decide) ?_
    have k2 : ∀ b o, h'.get? b = some o → (h'.push (PySem.W.kxs_mw "ValueError.__init__" a)).get? b = some o := fun b o e => Heap.get?_push_of_some _ e
    have I2 : Inv (ncx CX P w K mg base N (nfS name qual params st scope cc cda) f A outer s0 H0 E) pins σ H ⟨h'.push (PySem.W.kxs_mw "ValueError.__init__" a), g, d, t + 1, os⟩ := I1.kept (t' := t + 1) k2
    have pin : ∀ p ∈ pins ++ [(h'.objs.size, PySem.W.kxs_mw "ValueError.__init__" a)], (h'.push (PySem.W.kxs_mw "ValueError.__init__" a)).get? p.1 = some p.2 ∧ H p.1 = none ∧
        p.1 ≠ (envF (nfS name qual params st scope cc cda) f s0.heap.objs.size).locals ∧ p.1 ∉ frs outer ∧ ∀ v, p.2.data ≠ .cell v := by
      intro p hp
      rcases List.mem_append.mp hp with hp | hp
      · exact I2.pin p (List.mem_append_right _ hp)
      · rw [List.mem_singleton.mp hp]
        exact ⟨Heap.get?_push_at rfl rfl, I1.hok.fresh (Nat.le_refl _), fun z => absurd (Nat.lt_of_le_of_lt (Nat.le_of_eq z) I1.lt) (Nat.lt_irrefl _), I1.nofs (Nat.le_refl _), fun v z => by cases z⟩
    have I3 := I2.pins_of pin
    refine PySem.W.kxs_callWith1 (h₀ := base) (L := (envF (nfS name qual params st scope cc cda) f s0.heap.objs.size).locals) (news := [(h'.objs.size, PySem.W.kxs_mw "ValueError.__init__" a)]) (i := "ValueError.__init__") (x := a) ?_ (List.mem_singleton.mpr rfl) ?_ he hpl
    · intro p hp
      have hp := List.mem_singleton.mp hp
      subst hp
      refine ⟨Heap.get?_push_at rfl rfl, fun z => absurd (Nat.lt_of_le_of_lt (Nat.le_of_eq z) I1.lt) (Nat.lt_irrefl _), ?_⟩
      cases z : base.get? h'.objs.size with
      | none => rfl
      | some o => exact absurd (Heap.lt_size (I1.bk _ _ z)) (Nat.lt_irrefl _)
    · refine wpAny_mono (ha.run pos _ _ σ H _ I3 q) (fun us s3 got => ?_) fun e s' h => h
      obtain ⟨vs, H3, I4, r, vl, ea3, qn⟩ := got
      have hu := (I4.pin (h'.objs.size, PySem.W.kxs_mw "ValueError.__init__" a) (List.mem_append_right _ (List.mem_append_right _ (List.mem_singleton.mpr rfl)))).1
      refine ⟨hu, mw_ok T I4 ea3 hu (by rw [← r.length, sizeLine_eq]; omega) fun s' I5 => ?_⟩
      exact ⟨σ, H3, I5.unpinned, qn⟩
end G0
namespace G0
open PySem PySem.Spec PyProof.Rows L2 NdefX
/-- __init__ of an own exception: super().__init__('..'), then self.f = y -/
def spXI (C : Addr) (fld : Str) : Sp := fun vs H Q _ => ∃ (a : Addr) (y : V), vs = [.ref a, y] ∧ H a = some (exo a C none) ∧ ∀ dx, H dx = none → dx ≠ a → Q .non (upd (upd H dx (exd dx [(fld, y)])) a (exo a C (some dx)))
/-- what an own exception class asks -/
structure XcK (K : PySem.W.Frag) (C : Addr) (fld : Str) : Prop where
  T : OexC K C
  mro : PySem.W.mroIn K C (.ref C) = some true
  sup : PySem.W.ks_superIn K C C "__init__" = some (some (.builtin "ValueError.__init__"))
  ve : PySem.W.subIn K (.ref C) (.type "ValueError") = some true
  no : PySem.W.findIn K (.ref C) fld = some none
theorem ok_xinit {CX : CXT} {P : Program} {w : World} {K : PySem.W.Frag} {mg : Str → Option Value} {base : Heap}
    {f cc cda C : Addr} {name qual y fld m : Str} {params : Arguments} {scope : Scope} {dV kV doc pm ct oc cl : Value} {v : Option Value}
    {an od cld : Option Addr} {osl csl : Array (Option Value)} {p0 p1 ap mp pos pos' q0 q1 q2 q3 : Pos} {j : Nat}
    (lk : K.lookup f = some ⟨oc, od, .func (PySem.W.ksFn name qual params [.Expr (.Call (.Attribute (.Call (.Name "super" p0) [] [] p1) "__init__" ap) [.Constant (.str m) j mp] [] pos) pos',
      .Assign [.Attribute (.Name "self" q0) fld q1] (.Name y q2) q3] scope dV kV doc pm an (.ref cda) ct cc), osl⟩)
    (coded : PySem.W.codeIn K (.ref cda) qual = true) (lc : K.lookup cc = some ⟨cl, cld, .cell v, csl⟩)
    (S : NScope ["self", y, "__class__"] ["self", y] ["__class__"] scope) (X : XcK K C fld) (hy1 : (y == ("__debug__" : Str)) = false) (hy2 : (y == ("__classdict__" : Str)) = false)
    (hev : ∀ env : Env, ∃ pl : Sem Bool, eval (.Call (.Attribute (.Call (.Name "super" p0) [] [] p1) "__init__" ap) [.Constant (.str m) j mp] [] pos) env = (do
      let ov ← attributeBase (.Call (.Name "super" p0) [] [] p1) "__init__" env (eval (.Call (.Name "super" p0) [] [] p1) env)
      standAt ap.atName
      let (f', first) ← holding [ov] (getMethod ov "__init__" pl)
      callWith pos f' first (backTo pos (starEach [.Constant (.str m) j mp] env)) []))
    (hsw : ∀ env : Env, swapsWith (.Call (.Attribute (.Call (.Name "super" p0) [] [] p1) "__init__" ap) [.Constant (.str m) j mp] [] pos) none pos'.line env = pure false) (hs2 : ∀ env : Env, swapsWith (.Name y q2) (some (.Attribute (.Name "self" q0) fld q1)) q3.line env = pure false)
    (F : SupF P K ["self", y, "__class__"] f cc cda C (PySem.W.ksFn name qual params [.Expr (.Call (.Attribute (.Call (.Name "super" p0) [] [] p1) "__init__" ap) [.Constant (.str m) j mp] [] pos) pos',
      .Assign [.Attribute (.Name "self" q0) fld q1] (.Name y q2) q3] scope dV kV doc pm an (.ref cda) ct cc) params scope) :
    FnOk P w K mg base CX (0 + 1) f (PySem.W.ksFn name qual params [.Expr (.Call (.Attribute (.Call (.Name "super" p0) [] [] p1) "__init__" ap) [.Constant (.str m) j mp] [] pos) pos',
      .Assign [.Attribute (.Name "self" q0) fld q1] (.Name y q2) q3] scope dV kV doc pm an (.ref cda) ct cc) ["self", y] (spXI C fld) := by
  refine fnS_of lk coded lc S ?_ fun A outer s H vs Q E hr h => ?_
  · rintro vs H Q E ⟨a, z, rfl, _⟩
    rfl
  · obtain ⟨a, z, rfl, ea, q⟩ := h
    obtain ⟨pl, hpl⟩ := hev (envF (nfS name qual params [.Expr (.Call (.Attribute (.Call (.Name "super" p0) [] [] p1) "__init__" ap) [.Constant (.str m) j mp] [] pos) pos', .Assign [.Attribute (.Name "self" q0) fld q1] (.Name y q2) q3] scope cc cda) f s.heap.objs.size)
    refine ⟨_, _, p1_supX F (pa_cons pe_str pa_nil) (hsw := hsw _) (hev := hpl), pss_one (ps_ost (pv 0 (by rfl) (.inl (S.par _ (by simp)))) (pv 1 (by rfl) (.inl (S.par _ (by simp))) hy1 hy2) (hs2 _)), ?_⟩
    refine ⟨a, C, rfl, X.T, ea, X.mro, X.sup, X.ve, by show 1 ≤ 1000; decide, ea, ?_⟩
    exact ⟨_, rfl, _, rfl, a, C, rfl, X.T, X.no, .inl ⟨ea, fun dx h1 h2 => q dx h1 h2⟩⟩
end G0
namespace G0
open PySem PySem.Spec PyProof.Rows L2 NdefX
/-- raise X(e) -/
theorem ps_raiseX {X : Cx} {W : WX} {x y fld : Str} {C fI : Addr} {fd : FuncData} {p pos pos' : Pos} {e : Expr} {te : TE} (T : OexC X.K C) (iC : PySem.W.findIn X.K (.ref C) "__init__" = some (some (.ref fI)))
    (tI : PySem.W.typeIn X.K (.ref fI) = some (.type "function")) (F1 : FnOk X.prog X.w X.K X.mg X.base CX0 1 fI fd ["self", y] (spXI C fld)) (hb : Binds X.K fd ["self", y] []) (hr : Room 2 X.A)
    (hg : Gl X x) (hm : X.mg x = some (.ref C)) (hc : X.calm = true) (tk : Takes X W) (ha : PE X e te) (hdb : (x == ("__debug__" : Str)) = false := by decide)
    (he : starEach [e] X.env = (false, eval e X.env) :: starEach [] X.env := by rfl) (hpl : (backTo pos (starEach [] X.env)).any (·.1) = false := by rfl) :
    PS X (.Raise (some (.Call (.Name x p) [e] [] pos)) none pos') (fun _ σ H => tMkO C (spXI C fld) [] (tCons te tNil) σ H fun cls d H' => W cls d σ H') :=
  ps_raise hc tk (pmk_oex T iC tI F1 hr hb .nil pass0 hg hm (pa_cons (hs := he) ha pa_nil) hdb he hpl)
theorem xc_done {C : Addr} {fld : Str} {y : V} {H1 : Hp} {R : XK} (h : ∀ d, H1 d = none → R (.ref C) (some d) (upd H1 d (.xd [(fld, y)]))) :
    [y].length ≤ 1000 ∧ ∀ a, H1 a = none → spXI C fld (.ref a :: ([y] ++ [])) (upd H1 a (exo a C none))
      (fun v H2 => v = .non ∧ ∃ (d : Addr) (fs : List (Str × V)), H2 a = some (exo a C (some d)) ∧ H2 d = some (exd d fs) ∧ H1 d = none ∧ R (.ref C) (some d) (upd (del H2 a) d (.xd fs))) (fun _ _ _ => False) := by
  refine ⟨by show 1 ≤ 1000; decide, fun a ha => ⟨a, y, rfl, upd_same, fun dx h1 h2 => ?_⟩⟩
  have hd : H1 dx = none := by rw [upd_ne h2] at h1; exact h1
  refine ⟨rfl, dx, [(fld, y)], upd_same, by rw [upd_ne h2, upd_same], hd, ?_⟩
  have e : upd (del (upd (upd (upd H1 a (exo a C none)) dx (exd dx [(fld, y)])) a (exo a C (some dx))) a) dx (.xd [(fld, y)]) = upd H1 dx (.xd [(fld, y)]) := by
    funext b
    by_cases c : b = dx
    · subst c; rw [upd_same, upd_same]
    · rw [upd_ne c, upd_ne c]
      by_cases c2 : b = a
      · subst c2; rw [del_same, ha]
      · rw [del_ne c2, upd_ne c2, upd_ne c, upd_ne c2]
  rw [e]
  exact h dx hd
end G0
namespace G0
open PySem PySem.Spec PyProof.Rows L2 NdefX ClX
/-- super().__init__(..) of an instance of an own class, D's base giving a def -/
def tSupM (K : PySem.W.Frag) (D f2 : Addr) (sp : Sp) (ta : TA) : TS := fun Dn σ H => ∃ (a C dx : Addr) (fs : List (Str × V)), σ[0]? = some (some (.ref a)) ∧ H a = some (.ins C dx fs) ∧ PySem.W.mroIn K C (.ref D) = some true ∧
  PySem.W.ks_superIn K C D "__init__" = some (some (.ref f2)) ∧ PySem.W.typeIn K (.ref f2) = some (.type "function") ∧ PySem.W.fnIn K f2 = true ∧
  ta σ H fun vs H1 => sp (.ref a :: vs) H1 (fun _ H2 => Dn.nx σ H2) (fun _ _ _ => False)
theorem p1_supM {CX : CXT} {P : Program} {w : World} {K : PySem.W.Frag} {mg : Str → Option Value} {base : Heap} {N : List Str} {k2 : Nat} {sp : Sp}
    {f cc cda D f2 : Addr} {name qual : Str} {params : Arguments} {st : List Stmt} {scope : Scope} {fd : FuncData}
    {A : Around} {outer : List Env} {s0 : Shared} {H0 : Hp} {E : XK} {p0 p1 ap pos pos' : Pos} {e : Expr} {es : List Expr} {ta : TA} {pl : Sem Bool}
    (F : SupF P K N f cc cda D fd params scope) (F2 : FnR P w K mg base CX0 k2 f2 sp) (hr : Room k2 (A.deeper (envF (nfS name qual params st scope cc cda) f s0.heap.objs.size)))
    (ha : PA (ncx CX P w K mg base N (nfS name qual params st scope cc cda) f A outer s0 H0 E) (e :: es) ta)
    (he : starEach (e :: es) (envF (nfS name qual params st scope cc cda) f s0.heap.objs.size) = (false, eval e (envF (nfS name qual params st scope cc cda) f s0.heap.objs.size)) :: starEach es (envF (nfS name qual params st scope cc cda) f s0.heap.objs.size) := by rfl)
    (hpl : (backTo pos (starEach es (envF (nfS name qual params st scope cc cda) f s0.heap.objs.size))).any (·.1) = false := by rfl)
    (hsw : swapsWith (.Call (.Attribute (.Call (.Name "super" p0) [] [] p1) "__init__" ap) (e :: es) [] pos) none pos'.line (envF (nfS name qual params st scope cc cda) f s0.heap.objs.size) = pure false := by rfl)
    (hev : eval (.Call (.Attribute (.Call (.Name "super" p0) [] [] p1) "__init__" ap) (e :: es) [] pos) (envF (nfS name qual params st scope cc cda) f s0.heap.objs.size) = (do
      let ov ← attributeBase (.Call (.Name "super" p0) [] [] p1) "__init__" (envF (nfS name qual params st scope cc cda) f s0.heap.objs.size) (eval (.Call (.Name "super" p0) [] [] p1) (envF (nfS name qual params st scope cc cda) f s0.heap.objs.size))
      standAt ap.atName
      let (f', first) ← holding [ov] (getMethod ov "__init__" pl)
      callWith pos f' first (backTo pos (starEach (e :: es) (envF (nfS name qual params st scope cc cda) f s0.heap.objs.size))) []) := by rfl) :
    P1 (ncx CX P w K mg base N (nfS name qual params st scope cc cda) f A outer s0 H0 E) st (.Expr (.Call (.Attribute (.Call (.Name "super" p0) [] [] p1) "__init__" ap) (e :: es) [] pos) pos') (tSupM K D f2 sp ta) := by
  rintro pins s σ H Dn I ⟨a, C, dx, fs, hs, ea, hm, hsu, hty, hfn, q⟩
  obtain ⟨mA, OM, _⟩ := ins_get I.hok ea
  obtain ⟨od, J, _⟩ := OM.look
  refine PySem.ks_wpAt_Expr_any (PySem.ks_wpAt_MethodCall (sup_node F I hs J hm (by decide) fun h' k e1 => ?_) hev) I.quiet hsw
  obtain ⟨hh, g, d, t, os⟩ := s
  have I1 : Inv (ncx CX P w K mg base N (nfS name qual params st scope cc cda) f A outer s0 H0 E) pins σ H ⟨h', g, d, t, os⟩ := I.kept (t' := t) k
  have X1 : K.In h' := I1.kIn
  obtain ⟨mA1, OM1, _⟩ := ins_get I1.hok ea
  obtain ⟨od1, J1, _⟩ := OM1.look
  cases hc : PySem.W.clsIn K C with
  | none => unfold PySem.W.ks_superIn at hsu; rw [hc] at hsu; cases hsu
  | some cd =>
    unfold PySem.W.ks_superIn at hsu
    rw [hc] at hsu
    obtain ⟨of, hof, hofc⟩ : ∃ of, h'.get? f2 = some of ∧ of.cls = .type "function" := by
      have ht' : (K.lookup f2).map (·.cls) = some (.type "function") := hty
      cases z : K.lookup f2 with
      | none => rw [z] at ht'; cases ht'
      | some of => rw [z] at ht'; exact ⟨of, X1 _ _ z, Option.some.inj ht'⟩
    refine PySem.ks_wpAny_getMethod_super e1 (PySem.W.looks_opaque X1 F.any_) (l₀ := cd.mro) (fun A Q E s k q => wpAny_bind ((PySem.W.looks_clsIn X1 hc) A _ E s k (wpAny_pure q))) rfl X1 hsu hof hofc (PySem.W.ks_ne X1 J1 hc) (by decide) ?_
    have I3 := met_new (g := f2) (C := a) I1
    refine callwith_cm (C := a) (g := f2) I3 ?_ hfn ?_ he hpl
    · cases z : base.get? h'.objs.size with
      | none => exact z
      | some o => exact absurd (Heap.lt_size (I1.bk _ _ z)) (Nat.lt_irrefl _)
    · refine wpAny_mono (ha.run pos _ _ σ H _ I3 q) (fun us s3 got => ?_) fun e s' h => h
      obtain ⟨vs, H3, I4, r, qn⟩ := got
      refine ⟨⟨pin_at I4, I4.kIn⟩, ?_⟩
      refine wpAny_mono (run_cm F2 hr pass0 I4 r qn) (fun u s' z => ?_) fun e s' h => h
      obtain ⟨v, H', I5, _, qq⟩ := z
      exact ⟨σ, H', I5, qq⟩
end G0
/-! In defs called while an exception is handled: the exception is a pin of the context. -/
namespace G0
open PySem PySem.Spec PyProof.Rows L2
structure XhC (K : PySem.W.Frag) (D : Addr) : Prop where
  cl : (PySem.W.clsIn K D).isSome = true
  c : ExcC K D
/-- isinstance(e, c), e the handled exception at p -/
def rIsX (K : PySem.W.Frag) (D dd : Addr) (p : Addr) : List V → Hp → VK → Prop := fun xs H Q => ∃ (c : V) (cv : Value) (b : Bool), xs = [.ref p, c] ∧ (∀ u, RelV c u → u = cv) ∧ PySem.W.kitOne K (.ref D) cv = some b ∧ (∃ fs, H dd = some (.xd fs)) ∧ Q (.bl b) H
theorem call_isX {X : Cx} {p : Addr × Obj} {D dd : Addr} (hp : p ∈ X.pn) (C : XhC X.K D) (hc : p.2.cls = .ref D) (hd : p.2.dict = some dd) (hf : ∃ vs, p.2.data = .fields vs) : CallR X (.builtin "isinstance") (rIsX X.K D dd p.1) := by
  intro pins s σ H xs us Q I r h
  obtain ⟨c, cv, b, rfl, hcv, e, ⟨fs, ed⟩, q⟩ := h
  cases r with
  | cons rx rr =>
    cases rr with
    | cons rt rr =>
      cases rr
      cases rx
      have ec := hcv _ rt
      subst ec
      obtain ⟨hget, _⟩ := I.pin p (List.mem_append_left _ hp)
      obtain ⟨vs, hv⟩ := hf
      have hx : ObjOk X.prog X.w H s.heap dd (.xd fs) := I.hok dd _ ed
      obtain ⟨mA, hns, hr⟩ := hx
      obtain ⟨od, ho, hl⟩ := lookIn_ns hns
      have J : PySem.W.InstAt s.heap p.1 p.2 D (some od) := ⟨hget, hc, by unfold PySem.W.notCls; rw [hv] <;> rfl, by rw [hd]; exact ho⟩
      exact PySem.W.kia_one (PySem.W.kitx_exc C.cl C.c.hg C.c.hk C.c.hs C.c.ha C.c.hn C.c.ht C.c.hm) I.kIn J e (fun z => nomatch z) fun tk => ⟨.bl b, H, I.kept (t' := tk) fun _ _ z => z, rfl, q⟩
/-- e.f, e the handled exception at p -/
def tXp (p dd : Addr) (f : Str) (te : TE) : TE := fun σ H Q => te σ H fun x H1 => x = .ref p ∧ ∃ (fs : List (Str × V)) (v : V), H1 dd = some (.xd fs) ∧ fs.lookup f = some v ∧ Q v H1
theorem pe_xp {X : Cx} {p : Addr × Obj} {C dd : Addr} {e : Expr} {te : TE} {pos : Pos} {n : Str} (hp : p ∈ X.pn) (T : XfC X.K C) (hno : PySem.W.findIn X.K (.ref C) n = some none) (hc : p.2.cls = .ref C) (hd : p.2.dict = some dd) (hf : ∃ vs, p.2.data = .fields vs)
    (he : PE X e te) (hb : attributeBase e n X.env (eval e X.env) = eval e X.env := by rfl) : PE X (.Attribute e n pos) (tXp p.1 dd n te) := by
  refine ⟨fun pins s σ H Q I h => ?_⟩
  refine attr_of hb (thn (he.run pins s σ H _ I h) fun u s1 hh => ?_)
  obtain ⟨x, H1, I1, rx, ex, fs, v, ea, l, q⟩ := hh
  subst ex
  obtain rfl : u = Value.ref p.1 := rx
  obtain ⟨ha, _⟩ := I1.pin p (List.mem_append_left _ hp)
  obtain ⟨vs, hv⟩ := hf
  have hx : ObjOk X.prog X.w H1 s1.heap dd (.xd fs) := I1.hok dd _ ea
  obtain ⟨mA, hns, hr⟩ := hx
  obtain ⟨od, ho, hl⟩ := lookIn_ns hns
  obtain ⟨u, hu, ru⟩ := RelO.some_of (v := v) (o := mA n) (by rw [← l]; exact hr n)
  have J : PySem.W.InstAt s1.heap p.1 p.2 C (some od) := ⟨ha, hc, by unfold PySem.W.notCls; rw [hv] <;> rfl, by rw [hd]; exact ho⟩
  exact HandSPX.exc_get I1.kIn J T.ga T.gg T.exC (PySem.W.findObj_own T.hdC hno rfl (by rw [hl, hu])) (handed_of ru) ⟨v, H1, I1.tok _, ru, q⟩
end G0
namespace G0
open PySem PySem.Spec PyProof.Rows L2 L2H
/-- a def's promise while an exception is handled and nothing is under repr -/
structure FnHG (P : Program) (w : World) (K : PySem.W.Frag) (mg : Str → Option Value) (base : Heap) (CX : CXT) (k : Nat) (f : Addr) (fd : FuncData) (ps : List Str) (sp : Addr × Obj → Sp) : Prop where
  len : ∀ p vs H Q E, sp p vs H Q E → vs.length = ps.length
  run : ∀ (A : Around) (outer : List Env) (s : Shared) (H : Hp) (args : Args) (us : List Value) (vs : List V) (Q : VK) (E : XK) (p : Addr × Obj), A.guards = some [] → RoomH k A → Hot1 A p → PinOk outer H s p →
    Env0 P w K mg base A outer s H → BindsTo s fd args (ps.zip us) → Vals vs us → sp p vs H Q E → codeAny (model P w) A (.call (.ref f) args) (CR CX outer P w H s Q E) s
theorem fnHG_of {CX : CXT} {P : Program} {w : World} {K : PySem.W.Frag} {mg : Str → Option Value} {base : Heap} {k : Nat} {f : Addr} {name qual : Str} {params : Arguments} {body : List Stmt} {scope : Scope}
    {dV kV doc pm cdv ct oc : Value} {an od : Option Addr} {osl : Array (Option Value)} {N ps : List Str} {sp : Addr × Obj → Sp}
    (lk : K.lookup f = some ⟨oc, od, .func (PySem.W.fnOf name qual params body scope dV kV doc pm an cdv ct), osl⟩) (coded : PySem.W.codeIn K cdv qual = true) (S : FnScope N ps scope)
    (len : ∀ p vs H Q E, sp p vs H Q E → vs.length = ps.length)
    (inner : ∀ (A : Around) (outer : List Env) (s : Shared) (H : Hp) (vs : List V) (Q : VK) (E : XK) (p : Addr × Obj), A.guards = some [] → Hot1 A p → RoomH k (A.deeper (envOfC qual scope s.heap.objs.size f cdv)) → sp p vs H Q E →
      ∃ t, PSs (cxH CX P w K mg base N qual scope f cdv A outer s H E p) body t ∧ t { nx := fun _ H' => Q .non H', rt := Q } (L2.start N vs) H) :
    FnHG P w K mg base CX (k + 1) f (PySem.W.fnOf name qual params body scope dV kV doc pm an cdv ct) ps sp := by
  refine ⟨len, fun A outer s H args us vs Q E p free hr hot hpin e0 hb r hsp => ?_⟩
  have many := len _ _ _ _ _ hsp
  have KX : K.In s.heap := e0.mod.kin.keeps fun b o z => (e0.bs b o z).1
  have lim : s.heap.NoLimit := e0.mod.nolimit.keeps fun b o z => (e0.bs b o z).1
  have kinds : ∀ y ∈ ps.zip us, scope.names.lookup y.1 = some .local ∨
      (scope.names.lookup y.1 = some .cell ∧ ((cellsFrom (s.heap.objs.size + 1) scope.names []).lookup y.1).isSome = true) := by
    intro y hy
    cases S.par y.1 (List.of_mem_zip hy).1 with
    | inl q => exact .inl q
    | inr q => exact .inr ⟨q, PySem.W.cellsFrom_some _ _ _ (.inl q)⟩
  refine codeAny_call_function hr.depth (KX _ _ lk) rfl S.co S.gen rfl (PySem.W.codeRec_of KX coded) (hb _ _ _ _ ?_)
  refine wpAny_newFunctionEnv_cells S.kind kinds fun env same t1 made => ?_
  subst same
  refine ⟨lim.keeps made.toInCall.keep, codeAny_func ?_⟩
  obtain ⟨tb, derived, holds⟩ := inner A outer s H vs Q E p free hot (hr.deeper _) hsp
  have J : Inv (cxH CX P w K mg base N qual scope f cdv A outer s H E p) [] (L2.start N vs) H t1 := inv_startH S hpin e0 many r made
  refine wpAny_mono (derived.run [] t1 (L2.start N vs) H _ J holds) (fun fl t' told => ?_) fun e t' told => told
  match fl, told with
  | .ret u, ⟨v, σ', G', J', rv, q⟩ => exact ⟨v, G', J'.os, J'.bare, J'.base, J'.hok, rv, q⟩
  | .next, ⟨σ', G', J', q⟩ => exact ⟨V.non, G', J'.os, J'.bare, J'.base, J'.hok, (rfl : Value.none = Value.none), q⟩
  | .brk, ⟨_, _, _, q⟩ => exact q.elim
  | .cont, ⟨_, _, _, q⟩ => exact q.elim
section
variable {X : Cx} {CX : CXT} {k : Nat} {f : Addr} {fd : FuncData} {ps : List Str} {sp : Addr × Obj → Sp} {E : L2.St → XK} {x : Str} {q pos : Pos} {e : Expr} {es : List Expr} {t : TA} {p : Addr × Obj}
theorem run_fnHG {pins : List (Addr × Obj)} {σ : L2.St} {H : Hp} {s : Shared} {Q : VK} {us : List Value} {vs : List V} (F : FnHG X.prog X.w X.K X.mg X.base CX k f fd ps sp) (free : X.A.guards = some []) (hr : RoomH k X.A) (hot : Hot1 X.A p) (hp : p ∈ X.pn)
    (hb : Binds X.K fd ps []) (hx : PassesAt CX X σ (E σ)) (I : Inv X pins σ H s) (r : Vals vs us) (h : sp p vs H Q (E σ)) : wpAny (model X.prog X.w) X.A (call (.ref f) us) (EP X pins σ Q) X.xe s := by
  have many : us.length = ps.length := by rw [← r.length]; exact F.len _ _ _ _ _ h
  have b := hb s us I.kIn (by rw [List.append_nil]; exact many)
  rw [List.append_nil] at b
  have at_ := I.pin p (List.mem_append_left _ hp)
  have pin : PinOk X.stack H s p := ⟨at_.1, at_.2.1, fun hm => (List.mem_cons.mp (I.stkSub p.1 hm)).elim at_.2.2.1 at_.2.2.2.1, at_.2.2.2.2⟩
  refine wpAny_call (codeAny_mono (F.run X.A X.stack s H ⟨us, []⟩ us vs Q (E σ) p free hr hot pin I.env0 b r h) fun out s' told => ?_)
  match out, told with
  | .error e, told => exact hx pins H s e s' I told
  | .ok (.ret u), told => exact I.after told
  | .ok .next, told => exact told.elim
  | .ok .brk, told => exact told.elim
  | .ok .cont, told => exact told.elim
theorem pe_callHG (F : FnHG X.prog X.w X.K X.mg X.base CX k f fd ps sp) (free : X.A.guards = some []) (hr : RoomH k X.A) (hot : Hot1 X.A p) (hp : p ∈ X.pn) (hg : Gl X x) (hm : X.mg x = some (.ref f)) (hk : PySem.W.keepIn X.K (.ref f) = true) (hb : Binds X.K fd ps [])
    (hx : ∀ σ, PassesAt CX X σ (E σ)) (ha : PA X (e :: es) t) (hdb : (x == ("__debug__" : Str)) = false := by decide) (he : starEach (e :: es) X.env = (false, eval e X.env) :: starEach es X.env := by rfl) (hpl : (backTo pos (starEach es X.env)).any (·.1) = false := by rfl) :
    PE X (.Call (.Name x q) (e :: es) [] pos) (tCallS (sp p) E t) :=
  ⟨fun pins s σ H Q I h => wpAny_Call_Name_kw (ld_glob I hg hm
    (PySem.W.callWith_K (h₀ := X.base) I.ok.mod.kin hk (thn (ha.run pos pins s σ H _ I h) fun us s1 ⟨vs, H1, I1, r, q1⟩ => ⟨I1.kIn, run_fnHG F free hr hot hp hb (hx σ) I1 r q1⟩) he hpl) hdb)⟩
end
end G0
namespace G0
open PySem PySem.Spec PyProof.Rows L2
/-! ### sets through a far seat; more of one than of the other -/
theorem fit_len : ∀ (l m : List Int), l.Nodup → (∀ x ∈ l, x ∈ m) → l.length ≤ m.length
  | [], _, _, _ => Nat.zero_le _
  | x :: l, m, nd, h => by
    obtain ⟨n1, n2⟩ := List.nodup_cons.mp nd
    have hx := h x (List.mem_cons_self ..)
    have := fit_len l (m.erase x) n2 fun y hy => (List.mem_erase_of_ne (fun z => n1 (by rw [← z]; exact hy))).mpr (h y (List.mem_cons_of_mem _ hy))
    rw [List.length_erase_of_mem hx] at this
    have pos : 0 < m.length := List.length_pos_of_mem hx
    rw [List.length_cons]
    omega
theorem left_over {l m : List Int} (nd : l.Nodup) (h : m.length < l.length) : ∃ x rest, l.filter (fun y => !decide (y ∈ m)) = x :: rest ∧ x ∈ l ∧ x ∉ m := by
  cases e : l.filter (fun y => !decide (y ∈ m)) with
  | nil =>
    have := fit_len l m nd fun x hx => by
      have z := List.filter_eq_nil_iff.mp e x hx
      simpa using z
    omega
  | cons x rest =>
    have : x ∈ l.filter (fun y => !decide (y ∈ m)) := by rw [e]; exact List.mem_cons_self ..
    rw [List.mem_filter] at this
    exact ⟨x, rest, rfl, this.1, by simpa using this.2⟩
def thrL (p : Nat) (far : Int) : List Int :=
  if far = lstZ p then (List.range p).map (fun x : Nat => (x : Int) * ((p : Int) + 1)) ++ [lstZ p] else (List.range p).map (fun i : Nat => far - p + (1 + (i : Int))) ++ [lstZ p]
theorem thrL_len (p : Nat) (far : Int) : (thrL p far).length = p + 1 := by
  unfold thrL
  split <;> simp
theorem nd_up {l : List Int} (h : l.Pairwise (· < ·)) : l.Nodup := h.imp fun h => by omega
/-- the far seats -/
theorem far_mem {p : Nat} {far : Int} (m : far ∈ setL p (lstZ p)) : far = lstZ p ∨ ∃ x : Nat, x < p ∧ far = (x : Int) * ((p : Int) + 1) + p := by
  unfold setL at m
  rw [if_pos rfl, List.mem_append, List.mem_map, List.mem_singleton] at m
  rcases m with ⟨x, hx, e⟩ | e
  · exact .inr ⟨x, List.mem_range.mp hx, e.symm⟩
  · exact .inl e
theorem row_lt {p x : Nat} (h : x < p) : (x : Int) * ((p : Int) + 1) + ((p : Int) + 1) ≤ lstZ p := by
  have : ((x : Int) + 1) * ((p : Int) + 1) ≤ (p : Int) * ((p : Int) + 1) := Int.mul_le_mul_of_nonneg_right (by omega) (by omega)
  rw [Int.add_mul, Int.one_mul] at this
  exact this
theorem thrL_nd {p : Nat} {far : Int} (m : far ∈ setL p (lstZ p)) : (thrL p far).Nodup := by
  unfold thrL
  split
  · refine nd_up (up_snoc (fun x y h hy => ?_) fun x hx => ?_)
    · have : ((x : Int) + 1) * ((p : Int) + 1) ≤ (y : Int) * ((p : Int) + 1) := Int.mul_le_mul_of_nonneg_right (by omega) (by omega)
      rw [Int.add_mul, Int.one_mul] at this
      omega
    · have := row_lt hx
      omega
  · rename_i c
    obtain ⟨x, hx, e⟩ := (far_mem m).resolve_left c
    have := row_lt hx
    exact nd_up (up_snoc (fun x y h hy => by omega) fun x hx => by omega)
theorem thrL_all {p : Nat} {far n : Int} (m : far ∈ setL p (lstZ p)) (h : n ∈ thrL p far) : 0 ≤ n ∧ n ≤ lstZ p ∧ (n ≠ lstZ p → farS p n = far) := by
  have l0 := lstZ_pos p
  unfold thrL at h
  split at h
  · rename_i c
    rw [List.mem_append, List.mem_map, List.mem_singleton] at h
    rcases h with ⟨x, hx, e⟩ | e
    · have hx := List.mem_range.mp hx
      have r := row_lt hx
      have x0 : 0 ≤ (x : Int) * ((p : Int) + 1) := Int.mul_nonneg (by omega) (by omega)
      refine ⟨by omega, by omega, fun ne => ?_⟩
      rw [farS_up ne (by rw [← e]; exact Int.mul_emod_left _ _), c]
    · exact ⟨by omega, by omega, fun ne => absurd e ne⟩
  · rename_i c
    obtain ⟨x, hx, ef⟩ := (far_mem m).resolve_left c
    have r := row_lt hx
    have x0 : 0 ≤ (x : Int) * ((p : Int) + 1) := Int.mul_nonneg (by omega) (by omega)
    rw [List.mem_append, List.mem_map, List.mem_singleton] at h
    rcases h with ⟨i, hi, e⟩ | e
    · have hi := List.mem_range.mp hi
      refine ⟨by omega, by omega, fun ne => ?_⟩
      have en : n = (x : Int) * ((p : Int) + 1) + (1 + (i : Int)) := by omega
      obtain ⟨d1, d2⟩ := co_mk (p := p) (x := x) (j := 1 + (i : Int)) (by omega) (by omega)
      rw [← en] at d1 d2
      rw [farS_sl (by rw [d2]; omega), d1, ef]
    · exact ⟨by omega, by omega, fun ne => absurd e ne⟩
/-- the set through a far seat in which a seat stands -/
def takeN (p : Nat) (far s : Int) : Int := if farB p s = true then lstZ p else sThr p far s
theorem free_of {p : Nat} {far n s : Int} (m : far ∈ setL p (lstZ p)) (h : n ∈ thrL p far) (nf : s ≠ far) (nt : n ≠ takeN p far s) : liesB p s n = false := by
  obtain ⟨_, _, hf⟩ := thrL_all m h
  unfold liesB
  unfold takeN at nt
  by_cases c : n = lstZ p
  · rw [if_pos c]
    cases b : farB p s with
    | false => rfl
    | true => rw [b, if_pos rfl] at nt; exact absurd c nt
  · rw [if_neg c, hf c]
    cases b : farB p s with
    | true => rw [if_pos rfl, decide_eq_false nf]
    | false =>
      rw [b] at nt
      rw [if_neg (by simp), decide_eq_false (by simpa using nt)]
end G0
namespace G0
open PySem PySem.Spec PyProof.Rows L2 NdefX ClX
section
variable {P : Program} {w : World} {K : PySem.W.Frag} {mg : Str → Option Value} {base : Heap}
/-! ### defs that may raise -/
def CalX (P : Program) (w : World) (K : PySem.W.Frag) (mg : Str → Option Value) (base : Heap) (x : Str) (k : Nat) (ps : List Str) (sp : Sp) : Prop :=
  ∃ f fd, FnOk P w K mg base (L2.CX P w) k f fd ps sp ∧ Binds K fd ps [] ∧ mg x = some (.ref f) ∧ PySem.W.keepIn K (.ref f) = true
theorem calx_of {x : Str} {st : Stmt} {N ps : List Str} {k : Nat} {sp : Sp} (F : Fn K mg x st) (S : FnScope N ps (defScope st))
    (bd : ∀ (kV doc pm : Value) (an : Option Addr) (cdv ct : Value) (us : List Value), us.length = ps.length →
      bindArgs (PySem.W.fnOf x x (defArgs st) (defBody st) (defScope st) .none kV doc pm an cdv ct) ⟨us, []⟩ = pure (ps.zip us))
    (len : ∀ vs H Q E, sp vs H Q E → vs.length = ps.length)
    (inner : ∀ (f : Addr) (cdv : Value) (A : Around) (outer : List Env) (s : Shared) (H : Hp) (vs : List V) (Q : VK) (E : XK),
      Room k (A.deeper (envOfC x (defScope st) s.heap.objs.size f cdv)) → sp vs H Q E →
      ∃ t, PSs (cxOf (L2.CX P w) P w K mg base N x (defScope st) f cdv A outer s H E) (defBody st) t ∧ t { nx := fun _ H' => Q .non H', rt := Q } (L2.start N vs) H) :
    CalX P w K mg base x (k + 1) ps sp := by
  obtain ⟨f, fd, F, m⟩ := F
  exact ⟨f, fd, F.okX S len fun cdv A outer s H vs Q E hr h => inner f cdv A outer s H vs Q E hr h, F.binds bd, m, F.kp⟩
end
section
variable {X : Cx} {k : Nat} {ps : List Str} {sp : Sp} {x : Str} {p pos : Pos} {e : Expr} {es : List Expr} {t : TA} {W : WX}
theorem pe_calX (C : CalX X.prog X.w X.K X.mg X.base x k ps sp) (hr : Room k X.A) (tk : Takes X W) (ha : PA X (e :: es) t) (hg : Gl X x := by rfl) (n1 : (x == ("__debug__" : Str)) = false := by decide)
    (n2 : starEach (e :: es) X.env = (false, eval e X.env) :: starEach es X.env := by rfl) (n3 : (backTo pos (starEach es X.env)).any (·.1) = false := by rfl) :
    PE X (.Call (.Name x p) (e :: es) [] pos) (tCallS sp (WE W) t) := by
  obtain ⟨f, fd, F, b, m, kp⟩ := C
  exact pe_callS F hr hg m kp b (fun σ => passAt tk σ) ha n1 n2 n3
/-- isinstance(e, c) of the exception that a suite holds, with its dict -/
def rIsS (K : PySem.W.Frag) (cls : Value) (d : Option Addr) (a : Addr) : List V → Hp → VK → Prop := fun xs H Q => ∃ (D dd : Addr) (c : V) (cv : Value) (b : Bool), cls = .ref D ∧ d = some dd ∧ XhC K D ∧ xs = [.ref a, c] ∧ (∀ u, RelV c u → u = cv) ∧
  PySem.W.kitOne K (.ref D) cv = some b ∧ (∃ fs, H dd = some (.xd fs)) ∧ Q (.bl b) H
theorem call_isS {X : Cx} {a : Addr} {oe : Obj} {cls : Value} {d : Option Addr} {pn : List (Addr × Obj)} (hz : Zc cls d oe) (hf : ∃ vs, oe.data = .fields vs) : CallR (X.suite a ((a, oe) :: pn)) (.builtin "isinstance") (rIsS X.K cls d a) := by
  intro pins s σ H xs us Q I r h
  obtain ⟨D, dd, c, cv, b, rfl, rfl, hX, rfl, hcv, e, hd, q⟩ := h
  exact call_isX (X := X.suite a ((a, oe) :: pn)) (p := (a, oe)) (D := D) (dd := dd) (List.mem_cons_self ..) hX hz.1 hz.2 hf pins s σ H _ us Q I r ⟨c, cv, b, rfl, hcv, e, hd, q⟩
end

/-- of a tuple of classes -/
def rIsST (K : PySem.W.Frag) (cls : Value) (d : Option Addr) (a : Addr) : List V → Hp → VK → Prop := fun xs H Q => ∃ (D dd tp : Addr) (cs : List V) (us : List Value) (b : Bool), cls = .ref D ∧ d = some dd ∧ XhC K D ∧ xs = [.ref a, .ref tp] ∧ H tp = some (.tup cs) ∧ Paired ClsV cs us ∧
  PySem.W.kitAny K (.ref D) us = some b ∧ (∃ fs, H dd = some (.xd fs)) ∧ Q (.bl b) H
theorem call_isST {X : Cx} {a : Addr} {oe : Obj} {cls : Value} {d : Option Addr} {pn : List (Addr × Obj)} (hz : Zc cls d oe) (hf : ∃ vs, oe.data = .fields vs) : CallR (X.suite a ((a, oe) :: pn)) (.builtin "isinstance") (rIsST X.K cls d a) := by
  intro pins s σ H xs us Q I r h
  obtain ⟨D, dd, tp, cs, ws, b, rfl, rfl, C, rfl, hT, k, e, ⟨fs, ed⟩, q⟩ := h
  obtain ⟨u1, u2, rfl, r1, r2⟩ := vals2 r
  cases (show u1 = Value.ref a from r1)
  cases (show u2 = Value.ref tp from r2)
  obtain ⟨_, its, rv, o, h1, h2, n, h3⟩ := (show ObjOk X.prog X.w H s.heap tp (.tup cs) from I.hok tp _ hT)
  have e3 := ClsV.all k rv
  subst e3
  obtain ⟨oc, od', dt, sl⟩ := o
  simp only at h2 h3
  subst h2 h3
  obtain ⟨hget, _⟩ := I.pin (a, oe) (List.mem_append_left _ (List.mem_cons_self ..))
  obtain ⟨vs, hv⟩ := hf
  have hx : ObjOk X.prog X.w H s.heap dd (.xd fs) := I.hok dd _ ed
  obtain ⟨mA, hns, hr⟩ := hx
  obtain ⟨od, ho, hl⟩ := lookIn_ns hns
  have J : PySem.W.InstAt s.heap a oe D (some od) := ⟨hget, hz.1, by unfold PySem.W.notCls; rw [hv] <;> rfl, by rw [hz.2]; exact ho⟩
  exact PySem.W.kia_tup (PySem.W.kitx_exc C.cl C.c.hg C.c.hk C.c.hs C.c.ha C.c.hn C.c.ht C.c.hm) I.kIn J h1 e (fun z => nomatch z) fun tk => ⟨.bl b, H, I.kept (t' := tk) fun _ _ z => z, rfl, q⟩
theorem passL' {X : Cx} (σ : L2.St) : PassesAt (L2.CX X.prog X.w) X σ E0 := fun pins H s e s' I c => passL pins σ H s e s' I c
/-- an own exception of one field: what raising and catching it asks -/
structure XT (P : Program) (w : World) (K : PySem.W.Frag) (mg : Str → Option Value) (base : Heap) (C : Addr) (nm fld : Str) : Prop where
  xc : XcK K C fld
  xf : XfC K C
  xh : XhC K C
  init : ∃ fN fdN, PySem.W.findIn K (.ref C) "__init__" = some (some (.ref fN)) ∧ PySem.W.typeIn K (.ref fN) = some (.type "function") ∧ FnOk P w K mg base CX0 1 fN fdN ["self", fld] (spXI C fld) ∧ Binds K fdN ["self", fld] []
  g : mg nm = some (.ref C)
theorem u_snotin {X : Cx} (w : World) (hw : X.w = w := by rfl) : OpR X (compareOp .NotIn) (rSNotIn w) := hw ▸ or_snotin
end G0
namespace G0
open PySem PySem.Spec PyProof.Rows L2
/-! ### data that is the same -/
mutual
theorem eqv_self : ∀ d : PyData, PyData.canLay0 d = true → PyData.eqv d d = true
  | .none, _ => by simp [PyData.eqv]
  | .bool b, _ => by simp [PyData.eqv]
  | .int i, _ => by simp [PyData.eqv]
  | .str z, _ => by simp [PyData.eqv]
  | .dict _, h => by simp [PyData.canLay0] at h
  | .list ds, h => by
    simp only [PyData.eqv]
    exact eqvs_self ds (by simpa [PyData.canLay0] using h)
  | .tuple ds, h => by
    simp only [PyData.eqv]
    exact eqvs_self ds (by simpa [PyData.canLay0] using h)
theorem eqvs_self : ∀ ds : List PyData, PyData.canLayAll0 ds = true → PyData.eqvAll ds ds = true
  | [], _ => by simp [PyData.eqvAll]
  | d :: ds, h => by
    simp only [PyData.canLayAll0, Bool.and_eq_true] at h
    simp only [PyData.eqvAll, eqv_self d h.1, eqvs_self ds h.2, Bool.and_true]
end
theorem eqv_shaped {d : PyData} (h : SeqAt.shaped d = true) : PyData.eqv d d = true := eqv_self d (Bool.and_eq_true_iff.mp h).1
theorem shaped_pair {z : Str} (h : PyData.strOk z = true) (i : Int) : SeqAt.shaped (.tuple [.str z, .int i]) = true := by
  show ((PyData.tuple [.str z, .int i]).canLay0 && decide ((PyData.tuple [.str z, .int i]).depth ≤ 64)) = true
  simp [PyData.canLay0, PyData.canLayAll0, PyData.depth, PyData.depthAll, h]
end G0
namespace G0
open PySem PySem.Spec PyProof.Rows L2 NdefX ClX
section
variable {P : Program} {w : World} {K : PySem.W.Frag} {mg : Str → Option Value} {base : Heap} {CN CT : Addr}
/-! ### seats that are none -/
def spLookI (CN : Addr) : Sp := fun vs H Q E => ∃ x n : Int, vs = [.int x, .int n] ∧ (0 ≤ x ∧ x < n → Q .non H) ∧ (¬ (0 ≤ x ∧ x < n) → ∀ d, H d = none → E (.ref CN) (some d) (upd H d (.xd [("seat", .int x)])))
theorem ok_lookI (F : Fn K mg "look_at_seat" s_look_at_seat) (NT : XT P w K mg base CN "NoSeat" "seat") (Cis_below : Cal P w K mg base "is_below" 1 ["thing", "top"] spBel) : CalX P w K mg base "look_at_seat" 3 ["seat", "seats"] (spLookI CN) := by
  obtain ⟨fN, fdN, iN, tN, GN, bN⟩ := NT.init
  refine calx_of F sc_look_at_seat
    (fun _ _ _ _ _ _ us hl => match us, hl with | [_, _], _ => rfl) ?_ ?_
  · rintro vs H Q E ⟨x, n, rfl, _⟩
    rfl
  rintro f cdv A outer s H vs Q E hr ⟨x, n, rfl, q1, q2⟩
  have free := True.intro
  refine ⟨_, (pss_one (ps_if (pt_not (pt_val (pe_cal Cis_below free (hr.mono (by decide)) (pa_cons (pv 0) (pa_cons (pv 1) pa_nil)))))
    (pss_one (ps_raiseX NT.xc.T iN tN GN bN hr (by rfl) NT.g (by rfl) (takes_of rfl rfl rfl rfl) (pv 0)))
    pss_nil)), ?_⟩
  refine ⟨_, rfl, _, rfl, x, n, rfl, _, rfl, ?_⟩
  by_cases c : 0 ≤ x ∧ x < n
  · exact iteF' (by simp [c.1, c.2]) (q1 c)
  · refine iteT' ?_ ⟨_, rfl, xc_done fun d hd => q2 c d hd⟩
    rw [← Bool.decide_and, decide_eq_false c]
    rfl
def spLSX (CN : Addr) : Sp := fun vs H Q E => ∃ (p : Nat) (n : Int), vs = [.int (p : Int), .int n] ∧ p ≤ 9973 ∧ (0 ≤ n ∧ n ≤ lstZ p → Q .non H) ∧ (¬ (0 ≤ n ∧ n ≤ lstZ p) → ∀ d, H d = none → E (.ref CN) (some d) (upd H d (.xd [("seat", .int n)])))
theorem ok_lsX (F : Fn K mg "_look_at_seat" s_u_look_at_seat) (C_last : Cal P w K mg base "_last" 1 ["p"] spLast) (Clook_at_seat : CalX P w K mg base "look_at_seat" 3 ["seat", "seats"] (spLookI CN)) : CalX P w K mg base "_look_at_seat" 4 ["p", "seat"] (spLSX CN) := by
  refine calx_of F sc_u_look_at_seat
    (fun _ _ _ _ _ _ us hl => match us, hl with | [_, _], _ => rfl) ?_ ?_
  · rintro vs H Q E ⟨p, n, rfl, _⟩
    rfl
  rintro f cdv A outer s H vs Q E hr ⟨p, n, rfl, pt, q1, q2⟩
  have free := True.intro
  refine ⟨_, (pss_one (ps_expr (pe_calX Clook_at_seat hr (takes_of rfl rfl rfl rfl) (pa_cons (pv 1) (pa_cons (pe_op op_add (pe_cal C_last free (hr.mono (by decide)) (pa_cons (pv 0) pa_nil)) pe_int) pa_nil))))), ?_⟩
  exact ⟨_, rfl, _, rfl, p, rfl, pt, _, _, rfl, rfl, n, _, rfl, fun h => q1 ⟨h.1, by omega⟩, fun h d hd => q2 (fun z => h ⟨z.1, by omega⟩) d hd⟩
/-! ### all sets through a far seat -/
def spThrL (K : PySem.W.Frag) : Sp := fun vs H Q _ => ∃ (p : Nat) (far : Int), vs = [.int (p : Int), .int far] ∧ p ≤ 9973 ∧ ∀ (l : Addr) H', Same H H' → H l = none → H' l = some (.lst ((thrL p far).map V.int)) → Q (.ref l) H'
theorem sc_sets_through : FnScope ["p", "far", "x", "i"] ["p", "far"] (defScope s_sets_through) :=
  ⟨rfl, rfl, rfl, by decide +kernel, rfl, by decide +kernel, by decide +kernel⟩
theorem ok_thrL (F : Fn K mg "_sets_through" s_sets_through) (T : Bl51 mg) (C_last : Cal P w K mg base "_last" 1 ["p"] spLast) : Cal P w K mg base "_sets_through" 2 ["p", "far"] (spThrL K) := by
  refine cal_of F sc_sets_through
    (fun _ _ _ _ _ _ us hl => match us, hl with | [_, _], _ => rfl) ?_ ?_
  · rintro vs H Q E ⟨p, n, rfl, _⟩
    rfl
  rintro f cdv A outer s H vs Q E free hr ⟨p, n, rfl, pt, q⟩
  refine ⟨_, (pss_cons (ps_if (pt_cmpR op_eq (pv 1) (pe_cal C_last free (hr.mono (by decide)) (pa_cons (pv 0) pa_nil)) (nomark _))
    (pss_one (ps_ret (pe_op op_cat (pe_lc (own := [("x", 2)]) (g := gName 2) (tt := tYes) (by rfl) sc_sets_through.nd (pi_range1 (by rfl) T.range (pa_cons (pv 0) pa_nil)) (blkOk_by (N := ["p", "far", "x", "i"]) (sc := defScope s_sets_through) (by decide +kernel)) (fun _ _ _ _ _ => pg_name (i := 2) sc_sets_through.nd rfl (Or.inl rfl)) (fun _ _ _ _ _ => pts_nil) (fun _ _ _ _ _ => (pe_op op_mul (pv 2) (pe_op op_add (pv 0) pe_int)))) (pe_lst (pa_cons (pe_cal C_last free (hr.mono (by decide)) (pa_cons (pv 0) pa_nil)) pa_nil)))))
    pss_nil)
    (pss_one (ps_ret (pe_op op_cat (pe_lc (own := [("i", 3)]) (g := gName 3) (tt := tYes) (by rfl) sc_sets_through.nd (pi_range2 (by rfl) T.range (pa_cons pe_int (pa_cons (pe_op op_add (pv 0) pe_int) pa_nil))) (blkOk_by (N := ["p", "far", "x", "i"]) (sc := defScope s_sets_through) (by decide +kernel)) (fun _ _ _ _ _ => pg_name (i := 3) sc_sets_through.nd rfl (Or.inl rfl)) (fun _ _ _ _ _ => pts_nil) (fun _ _ _ _ _ => (pe_op op_add (pe_op op_sub (pv 1) (pv 0)) (pv 3)))) (pe_lst (pa_cons (pe_cal C_last free (hr.mono (by decide)) (pa_cons (pv 0) pa_nil)) pa_nil)))))), ?_⟩
  have big : ∀ {i : Nat}, i ≤ p → i < sizeLine := fun h => Nat.lt_of_lt_of_le (show _ < 10000 by omega) (by decide)
  unfold thrL at q
  refine ⟨_, rfl, _, rfl, p, rfl, pt, rfl, _, rfl, ?_⟩
  rw [dec_ii]
  refine ite2 (fun c => ?_) (fun c => ?_)
  · have c' := of_decide_eq_true c
    rw [if_pos c'] at q
    refine ⟨_, rfl, _, rfl, by omega, by omega, fun D hD => ?_⟩
    refine lc_range (lo := 0) (n := ((p : Int)).toNat) (fun i G => Same H G ∧ G D = some (.lst (((List.range i).map (fun x : Nat => (x : Int) * ((p : Int) + 1))).map V.int))) ⟨same_upd hD, upd_same⟩ ?_ ?_
    · rintro i G hi ⟨sG, kD⟩
      refine ⟨rfl, lc_yes ?_⟩
      refine ⟨_, rfl, _, rfl, _, _, rfl, rfl, _, _, rfl, rfl, .inl ⟨by omega, by omega⟩, ?_⟩
      rw [Int.zero_add]
      refine ⟨_, kD, ?_, fun c o e => ?_, ?_⟩
      · rw [List.length_map, List.length_map, List.length_range]
        exact big (by omega)
      · rw [upd_ne (ne_of_none e hD)]
        exact sG _ _ e
      · rw [List.range_succ, List.map_append, List.map_append]
        exact upd_same
    rintro G ⟨sG, kD⟩
    rw [Int.toNat_natCast] at kD
    refine ⟨_, rfl, p, rfl, pt, ?_⟩
    refine ⟨by show 1 ≤ sizeLine; decide, fun e he => ?_⟩
    have de : D ≠ e := ne_of_none kD he
    refine ⟨_, _, _, _, rfl, rfl, (upd_ne de).trans kD, upd_same, ?_, fun l hl => ?_⟩
    · rw [List.length_map, List.length_map, List.length_range, List.length_singleton]
      exact Nat.le_trans (show _ ≤ 10000 by omega) (by decide)
    have s3 := (sG.trans (same_upd (o := .lst [.int (lstZ p)]) he)).trans (same_upd (o := .lst (((List.range p).map (fun x : Nat => (x : Int) * ((p : Int) + 1))).map V.int ++ [.int (lstZ p)])) hl)
    refine q l _ s3 (by
      cases z : H l with
      | none => rfl
      | some o => exact absurd ((sG.trans (same_upd (o := .lst [.int (lstZ p)]) he)) _ _ z) (by rw [hl]; exact fun z => nomatch z)) ?_
    rw [List.map_append]
    exact upd_same
  · have c' : ¬ n = lstZ p := fun z => c (decide_eq_true z)
    rw [if_neg c'] at q
    refine ⟨_, rfl, _, _, rfl, rfl, _, _, rfl, ⟨by omega, by omega, by omega, by omega⟩, fun D hD => ?_⟩
    refine lc_range (lo := 1) (n := ((p : Int) + 1 - 1).toNat) (fun i G => Same H G ∧ G D = some (.lst (((List.range i).map (fun i : Nat => n - p + (1 + (i : Int)))).map V.int))) ⟨same_upd hD, upd_same⟩ ?_ ?_
    · rintro i G hi ⟨sG, kD⟩
      refine ⟨rfl, lc_yes ?_⟩
      refine ⟨_, rfl, _, rfl, _, _, rfl, rfl, _, rfl, _, _, rfl, rfl, ?_⟩
      refine ⟨_, kD, ?_, fun c o e => ?_, ?_⟩
      · rw [List.length_map, List.length_map, List.length_range]
        exact big (by omega)
      · rw [upd_ne (ne_of_none e hD)]
        exact sG _ _ e
      · rw [List.range_succ, List.map_append, List.map_append]
        exact upd_same
    rintro G ⟨sG, kD⟩
    rw [show ((p : Int) + 1 - 1).toNat = p by omega] at kD
    refine ⟨_, rfl, p, rfl, pt, ?_⟩
    refine ⟨by show 1 ≤ sizeLine; decide, fun e he => ?_⟩
    have de : D ≠ e := ne_of_none kD he
    refine ⟨_, _, _, _, rfl, rfl, (upd_ne de).trans kD, upd_same, ?_, fun l hl => ?_⟩
    · rw [List.length_map, List.length_map, List.length_range, List.length_singleton]
      exact Nat.le_trans (show _ ≤ 10000 by omega) (by decide)
    have s3 := (sG.trans (same_upd (o := .lst [.int (lstZ p)]) he)).trans (same_upd (o := .lst (((List.range p).map (fun i : Nat => n - p + (1 + (i : Int)))).map V.int ++ [.int (lstZ p)])) hl)
    refine q l _ s3 (by
      cases z : H l with
      | none => rfl
      | some o => exact absurd ((sG.trans (same_upd (o := .lst [.int (lstZ p)]) he)) _ _ z) (by rw [hl]; exact fun z => nomatch z)) ?_
    rw [List.map_append]
    exact upd_same
end

end G0
namespace G0
open PySem PySem.Spec PyProof.Rows L2 NdefX ClX
section
variable {P : Program} {w : World} {K : PySem.W.Frag} {mg : Str → Option Value} {base : Heap} {CN CT : Addr}
/-! ### free -/
abbrev InR (p : Nat) (z : Int) : Prop := 0 ≤ z ∧ z ≤ lstZ p
def spFree (K : PySem.W.Frag) (CN CT : Addr) : Sp := fun vs H Q E => ∃ (p : Nat) (a : Addr) (xs : List Int), vs = [.int (p : Int), .ref a] ∧ Pr p ∧ SqL K H a (xs.map V.int) ∧ xs.length < 3000 ∧
  (∀ (i : Nat) z, xs[i]? = some z → (∀ (j : Nat) y, j < i → xs[j]? = some y → InR p y) → ¬ InR p z → ∀ d H', Same H H' → H' d = none → E (.ref CN) (some d) (upd H' d (.xd [("seat", .int z)]))) ∧
  ((∀ y ∈ xs, InR p y) → p < xs.length → ∀ d H', Same H H' → H' d = none → E (.ref CT) (some d) (upd H' d (.xd [("many", .int xs.length)]))) ∧
  ((∀ y ∈ xs, InR p y) → xs.length ≤ p → ∀ n H', Same H H' → InR p n → (∀ s ∈ xs, liesB p s n = false) → Q (.int n) H')
theorem take_one {α : Type} {l : List α} {i : Nat} {x : α} (h : l[i]? = some x) : l.take (i + 1) = l.take i ++ [x] := by
  rw [List.take_add_one, h]
  rfl
theorem ints_at {ns : List Int} {i : Nat} {x : V} (h : (ns.map V.int)[i]? = some x) : ∃ k, ns[i]? = some k ∧ x = V.int k := by
  rw [List.getElem?_map] at h
  cases e : ns[i]? with
  | none => rw [e] at h; cases h
  | some k => rw [e] at h; exact ⟨k, rfl, (Option.some.inj h).symm⟩
theorem sc_free : FnScope ["p", "fallen", "seat", "down", "far", "taken", "number"] ["p", "fallen"] (defScope s_free) :=
  ⟨rfl, rfl, rfl, by decide +kernel, rfl, by decide +kernel, by decide +kernel⟩
theorem ok_free (F : Fn K mg "free" s_free) (T : Bl51 mg) (TM : XT P w K mg base CT "TooManyFallen" "many") (C_look_at_prime : Cal P w K mg base "_look_at_prime" 2 ["p"] spLP) (C_look_at_seat : CalX P w K mg base "_look_at_seat" 4 ["p", "seat"] (spLSX CN)) (C_set_of : Cal P w K mg base "_set_of" 4 ["p", "number"] (spSetOf K))
    (C_last : Cal P w K mg base "_last" 1 ["p"] spLast) (C_is_far : Cal P w K mg base "_is_far" 2 ["p", "seat"] spFar) (C_set_through : Cal P w K mg base "_set_through" 2 ["p", "far", "near"] (spThr K)) (C_sets_through : Cal P w K mg base "_sets_through" 2 ["p", "far"] (spThrL K)) :
    CalX P w K mg base "free" 5 ["p", "fallen"] (spFree K CN CT) := by
  obtain ⟨fM, fdM, iM, tM, GM, bM⟩ := TM.init
  refine calx_of F sc_free
    (fun _ _ _ _ _ _ us hl => match us, hl with | [_, _], _ => rfl) ?_ ?_
  · rintro vs H Q E ⟨p, a, xs, rfl, _⟩
    rfl
  rintro f cdv A outer s H vs Q E hr ⟨p, a, xs, rfl, hp, hS, few, q1, q2, q3⟩
  have free := True.intro
  have p2 := hp.two
  have pt := hp.top
  have l0 := lstZ_pos p
  refine ⟨_, (pss_cons (ps_expr (pe_cal C_look_at_prime free (hr.mono (by decide)) (pa_cons (pv 0) pa_nil)))
    (pss_cons (ps_for (passes_of rfl) rfl (pi_list (pv 1)) (pg_name (i := 2) sc_free.nd rfl (Or.inl rfl))
    (pss_one (ps_expr (pe_calX C_look_at_seat (hr.mono (by decide)) (takes_of rfl rfl rfl rfl) (pa_cons (pv 0) (pa_cons (pv 2) pa_nil))))))
    (pss_cons (ps_if (pt_cmpR op_gt (pe_callB call_len_seq (by rfl) T.len (by decide +kernel) (pa_cons (pv 1) pa_nil)) (pv 0) (nomark _))
    (pss_one (ps_raiseX TM.xc.T iM tM GM bM (hr.mono (by decide)) (by rfl) TM.g (by rfl) (takes_of rfl rfl rfl rfl) (pe_callB call_len_seq (by rfl) T.len (by decide +kernel) (pa_cons (pv 1) pa_nil))))
    pss_nil)
    (pss_cons (ps_set (i := 3) sc_free.nd rfl (Or.inr rfl) (pe_callTy (cr_setOfJ (by rfl)) (by rfl) T.set (by decide +kernel) (pa_cons (pv 1) pa_nil)))
    (pss_cons (ps_set (i := 4) sc_free.nd rfl (Or.inr rfl) (pe_ix ix_list (pe_lc (own := [("seat", 2)]) (g := gName 2)  (by rfl) sc_free.nd (pi_tup (pe_cal C_set_of free (hr.mono (by decide)) (pa_cons (pv 0) (pa_cons (pe_cal C_last free (hr.mono (by decide)) (pa_cons (pv 0) pa_nil)) pa_nil)))) (blkOk_by (N := ["p", "fallen", "seat", "down", "far", "taken", "number"]) (sc := defScope s_free) (by decide +kernel)) (fun _ _ _ _ _ => pg_name (i := 2) sc_free.nd rfl (Or.inl rfl)) (fun _ _ _ _ _ => pts_one (pt_cmpR (u_snotin w) (pv 2) (pv 3) (by rfl))) (fun _ _ _ _ _ => (pv 2))) pe_int (fun _ _ => rfl)))
    (pss_cons (ps_set (i := 5) sc_free.nd rfl (Or.inr rfl) (pe_scG (intoI _) (own := [("seat", 2)]) (g := gName 2) (tt := tYes) (by rfl) sc_free.nd (pi_list (pv 1)) (blkOk_by (N := ["p", "fallen", "seat", "down", "far", "taken", "number"]) (sc := defScope s_free) (by decide +kernel)) (fun _ _ _ _ _ => pg_name (i := 2) sc_free.nd rfl (Or.inl rfl)) (fun _ _ _ _ _ => pts_nil) (fun _ _ _ _ _ => (pe_ifExp (pt_val (pe_cal C_is_far free (hr.mono (by decide)) (pa_cons (pv 0) (pa_cons (pv 2) pa_nil)))) (pe_cal C_last free (hr.mono (by decide)) (pa_cons (pv 0) pa_nil)) (pe_cal C_set_through free (hr.mono (by decide)) (pa_cons (pv 0) (pa_cons (pv 4) (pa_cons (pv 2) pa_nil))))))))
    (pss_one (ps_ret (pe_ix ix_list (pe_lc (own := [("number", 6)]) (g := gName 6)  (by rfl) sc_free.nd (pi_list (pe_cal C_sets_through free (hr.mono (by decide)) (pa_cons (pv 0) (pa_cons (pv 4) pa_nil)))) (blkOk_by (N := ["p", "fallen", "seat", "down", "far", "taken", "number"]) (sc := defScope s_free) (by decide +kernel)) (fun _ _ _ _ _ => pg_name (i := 6) sc_free.nd rfl (Or.inl rfl)) (fun _ _ _ _ _ => pts_one (pt_cmpR (u_snotin w) (pv 6) (pv 5) (by rfl))) (fun _ _ _ _ _ => (pv 6))) pe_int (fun _ _ => rfl)))))))))), ?_⟩
  have big : ∀ {i : Nat}, i ≤ p + 1 → i < sizeLine := fun h => Nat.lt_of_lt_of_le (show _ < 10000 by omega) (by decide)
  refine ⟨_, rfl, p, rfl, hp, fun H1 s1 => ?_⟩
  have hS1 := s1.seq hS
  refine ⟨_, rfl, a, rfl, ⟨_, hS1⟩, ?_⟩
  refine for_list (K := K) (a := a) (xs := xs.map V.int) (fun i σ G => (∃ z : Option V, σ = [some (V.int (p : Int)), some (V.ref a), z, none, none, none, none]) ∧ G = H1 ∧ ∀ (j : Nat) y, j < i → xs[j]? = some y → InR p y) ⟨⟨_, rfl⟩, rfl, fun j y h => absurd h (Nat.not_lt_zero _)⟩ (fun i σ G _ h => by rw [h.2.1]; exact hS1) ?_ ?_
  · rintro i x σ G hx ⟨⟨z, rfl⟩, rfl, al⟩
    obtain ⟨k, hk, rfl⟩ := ints_at hx
    refine ⟨_, rfl, _, rfl, p, k, rfl, pt, fun ok => ?_, fun bad d hd => q1 i k hk al bad d _ s1 hd⟩
    refine ⟨⟨_, rfl⟩, rfl, fun j y hj hy => ?_⟩
    rcases Nat.lt_or_ge j i with c | c
    · exact al j y c hy
    · have e : j = i := by omega
      subst e
      rw [hk] at hy
      cases hy
      exact ok
  rintro σ G ⟨⟨z, rfl⟩, rfl, al⟩
  have al : ∀ y ∈ xs, InR p y := fun y hy => by
    obtain ⟨j, hj, e⟩ := List.getElem_of_mem hy
    exact al j y (by rw [List.length_map]; exact hj) (by rw [List.getElem?_eq_getElem hj, e])
  refine ⟨_, rfl, a, _, rfl, .inl hS1, _, rfl, _, _, rfl, rfl, _, rfl, ?_⟩
  rw [List.length_map]
  by_cases c : p < xs.length
  · refine iteT' (decide_eq_true (by omega)) ?_
    refine ⟨_, rfl, a, _, rfl, .inl hS1, ?_⟩
    rw [List.length_map]
    exact xc_done fun d hd => q2 al c d _ s1 hd
  refine iteF' (decide_eq_false (by omega)) ?_
  refine ⟨_, rfl, a, xs, rfl, hS1, by omega, fun b cb hb => ?_⟩
  obtain ⟨G1, e1⟩ : ∃ G1, G1 = upd G b (SetO w b (fun j => decide (j ∈ xs)) cb) := ⟨_, rfl⟩
  have sG1 : Same G G1 := by rw [e1]; exact same_upd hb
  have kb : G1 b = some (SetO w b (fun j => decide (j ∈ xs)) cb) := by rw [e1]; exact upd_same
  show gName 3 (V.ref b) _ (upd G b (SetO w b (fun j => decide (j ∈ xs)) cb)) _
  rw [← e1]
  refine ⟨_, rfl, _, rfl, p, rfl, pt, p, lstZ p, rfl, hp, ⟨l0, Int.le_refl _⟩, fun t us G2 s2 ht qt pe up => ?_⟩
  refine ⟨t, rfl, ⟨_, qt⟩, fun D hD => ?_⟩
  have nd : us.Nodup := nd_up up
  have lu : us.length = p + 1 := by rw [pe.length_eq, setL_len]
  have kb2 := s2 _ _ kb
  refine lc_tup (K := K) (a := t) (xs := us.map V.int) (fun i G' => Same G2 G' ∧ G' D = some (.lst (((us.take i).filter fun y => !decide (y ∈ xs)).map V.int))) ⟨same_upd hD, by rw [List.take_zero]; exact upd_same⟩ (fun i G' _ h => sqt_same h.1 qt) ?_ ?_
  · rintro i x G' hx ⟨sG, kD⟩
    obtain ⟨k, hk, rfl⟩ := ints_at hx
    have li := (List.getElem?_eq_some_iff.mp hk).1
    refine ⟨rfl, _, rfl, _, rfl, k, b, _, _, rfl, rfl, sG _ _ kb2, _, rfl, ?_⟩
    refine ite2 (fun c2 => ?_) (fun c2 => ?_)
    · refine ⟨_, rfl, _, kD, ?_, fun u o e => ?_, ?_⟩
      · rw [List.length_map]
        exact big (Nat.le_trans (List.length_filter_le ..) (by rw [List.length_take]; omega))
      · rw [upd_ne (ne_of_none e hD)]
        exact sG _ _ e
      · rw [take_one hk, List.filter_append, List.filter_cons, if_pos c2, List.filter_nil, List.map_append]
        exact upd_same
    · refine ⟨sG, ?_⟩
      rw [take_one hk, List.filter_append, List.filter_cons, if_neg c2, List.filter_nil, List.append_nil]
      exact kD
  rintro G3 ⟨s3, kD⟩
  rw [List.length_map, List.take_length] at kD
  obtain ⟨far, rest, ef, mf, nf⟩ := left_over nd (m := xs) (by omega)
  rw [ef] at kD
  have mf := pe.mem_iff.mp mf
  have nff : ∀ y ∈ xs, y ≠ far := fun y hy z => nf (by rw [← z]; exact hy)
  refine ⟨D, _, 0, .int far, rfl, rfl, SqL.of kD, atI_nat (j := 0) rfl, ?_⟩
  have sA := sG1.trans (s2.trans s3)
  have hS3 := sA.seq hS1
  refine ⟨_, rfl, a, rfl, ⟨_, hS3⟩, fun D2 hD2 => ?_⟩
  have fr := far_mem mf
  have fIn : InR p far := by
    rcases fr with e | ⟨x, hx, e⟩
    · exact ⟨by omega, by omega⟩
    · have r := row_lt hx
      have x0 : 0 ≤ (x : Int) * ((p : Int) + 1) := Int.mul_nonneg (by omega) (by omega)
      exact ⟨by omega, by omega⟩
  refine scG_list (intoI _) (K := K) (a := a) (xs := xs.map V.int) (fun i G' => Same G3 G' ∧ ∃ S n, G' D2 = some (SetO w D2 S n) ∧ n ≤ i ∧ ∀ k, S k = decide (k ∈ (xs.take i).map (takeN p far))) ⟨same_upd hD2, _, _, upd_same, Nat.le_refl _, fun k => rfl⟩ (fun i G' h => h.1.seq hS3) ?_ ?_
  · rintro i x G' hx ⟨sG, S, n, kD2, ni, hs⟩
    obtain ⟨k, hk, rfl⟩ := ints_at hx
    have kin := al k (List.mem_of_getElem? hk)
    have li := (List.getElem?_eq_some_iff.mp hk).1
    have go : ∀ (y : Int) (G4 : Hp), Same G' G4 → y = takeN p far k → ∃ (c : Int) (S : Int → Bool) (n : Nat), V.int y = .int c ∧ G4 D2 = some (SetO w D2 S n) ∧ n + 1 < scanBound ∧
        (Same G3 (upd G4 D2 (SetO w D2 (fun j => S j || decide (j = c)) (if S c = true then n else n + 1))) ∧ ∃ S' n', upd G4 D2 (SetO w D2 (fun j => S j || decide (j = c)) (if S c = true then n else n + 1)) D2 = some (SetO w D2 S' n') ∧ n' ≤ i + 1 ∧ ∀ k, S' k = decide (k ∈ (xs.take (i + 1)).map (takeN p far))) := fun y G4 s4 ey => by
      refine ⟨y, S, n, rfl, s4 _ _ kD2, by unfold scanBound; omega, fun u o e => ?_, _, _, upd_same, ?_, fun j => ?_⟩
      · rw [upd_ne (ne_of_none e hD2)]
        exact s4 _ _ (sG _ _ e)
      · split <;> omega
      · show (S j || decide (j = y)) = _
        rw [hs, take_one hk, List.map_append, ← Bool.decide_or]
        refine decide_eq_decide.mpr ?_
        rw [List.mem_append, List.map_cons, List.map_nil, List.mem_singleton, ey]
    refine ⟨rfl, lc_yes ?_⟩
    refine ⟨_, rfl, _, rfl, p, k, rfl, pt, _, rfl, ?_⟩
    refine ite2 (fun c3 => ?_) (fun c3 => ?_)
    · exact ⟨_, rfl, p, rfl, pt, go _ _ (Same.refl _) (by unfold takeN; rw [if_pos c3])⟩
    · exact ⟨_, rfl, _, rfl, _, rfl, p, far, k, rfl, hp, fIn.1, fIn.2, kin.1, kin.2, fun G4 s4 => go _ _ s4 (by unfold takeN; rw [if_neg c3])⟩
  rintro G4 ⟨s4, S, n, kS, _, hs⟩
  rw [List.length_map, List.take_length] at hs
  refine ⟨_, rfl, _, rfl, p, far, rfl, pt, fun l G5 s5 hl kl => ?_⟩
  refine ⟨l, rfl, ⟨_, SqL.of kl⟩, fun D3 hD3 => ?_⟩
  have kS5 := s5 _ _ kS
  refine lc_list (K := K) (a := l) (xs := (thrL p far).map V.int) (fun i G' => Same G5 G' ∧ G' D3 = some (.lst ((((thrL p far).take i).filter fun y => !decide (y ∈ xs.map (takeN p far))).map V.int))) ⟨same_upd hD3, by rw [List.take_zero]; exact upd_same⟩ (fun i G' _ h => h.1.seq (SqL.of kl)) ?_ ?_
  · rintro i x G' hx ⟨sG, kD⟩
    obtain ⟨k, hk, rfl⟩ := ints_at hx
    have li := (List.getElem?_eq_some_iff.mp hk).1
    have lt := thrL_len p far
    refine ⟨rfl, _, rfl, _, rfl, k, D2, S, n, rfl, rfl, sG _ _ kS5, _, rfl, ?_⟩
    rw [hs]
    refine ite2 (fun c2 => ?_) (fun c2 => ?_)
    · refine ⟨_, rfl, _, kD, ?_, fun u o e => ?_, ?_⟩
      · rw [List.length_map]
        exact big (Nat.le_trans (List.length_filter_le ..) (by rw [List.length_take]; omega))
      · rw [upd_ne (ne_of_none e hD3)]
        exact sG _ _ e
      · rw [take_one hk, List.filter_append, List.filter_cons, if_pos c2, List.filter_nil, List.map_append]
        exact upd_same
    · refine ⟨sG, ?_⟩
      rw [take_one hk, List.filter_append, List.filter_cons, if_neg c2, List.filter_nil, List.append_nil]
      exact kD
  rintro G6 ⟨s6, kD⟩
  rw [List.length_map, List.take_length] at kD
  obtain ⟨nr, rest2, en, mn, nn⟩ := left_over (thrL_nd mf) (m := xs.map (takeN p far)) (by rw [thrL_len, List.length_map]; omega)
  rw [en] at kD
  obtain ⟨n0, n1, _⟩ := thrL_all mf mn
  refine ⟨D3, _, 0, .int nr, rfl, rfl, SqL.of kD, atI_nat (j := 0) rfl, ?_⟩
  exact q3 al (by omega) nr _ (s1.trans (sA.trans (s4.trans (s5.trans s6)))) ⟨n0, n1⟩ fun y hy => free_of mf mn (nff y hy) fun z => nn (by rw [z]; exact List.mem_map_of_mem hy)
end

end G0
namespace G0
open PySem PySem.Spec PyProof.Rows L2 NdefX ClX
section
variable {X : Cx} {k : Nat} {ps : List Str} {sp : Sp} {x : Str} {p pos : Pos} {e : Expr} {es : List Expr} {t : TA}
/-- called where nothing is raised -/
theorem pe_calX0 (C : CalX X.prog X.w X.K X.mg X.base x k ps sp) (hr : Room k X.A) (ha : PA X (e :: es) t) (hg : Gl X x := by rfl) (n1 : (x == ("__debug__" : Str)) = false := by decide)
    (n2 : starEach (e :: es) X.env = (false, eval e X.env) :: starEach es X.env := by rfl) (n3 : (backTo pos (starEach es X.env)).any (·.1) = false := by rfl) :
    PE X (.Call (.Name x p) (e :: es) [] pos) (tCallS sp (fun _ => E0) t) := by
  obtain ⟨f, fd, F, b, m, kp⟩ := C
  exact pe_callS F hr hg m kp b passL' ha n1 n2 n3
end
section
variable {P : Program} {w : World} {K : PySem.W.Frag} {mg : Str → Option Value} {base : Heap} {CN CT : Addr}
/-! ### one look -/
def spRight (K : PySem.W.Frag) : Sp := fun vs H Q _ => ∃ (p : Nat) (a : Addr) (xs : List Int), vs = [.int (p : Int), .ref a] ∧ Pr p ∧ H a = some (.lst (xs.map V.int)) ∧ xs.length ≤ p ∧ xs.length < 3000 ∧ (∀ y ∈ xs, InR p y) ∧ ∀ H', Same H H' → Q (.bl true) H'
theorem sc_law_right : FnScope ["p", "fallen", "handed", "found", "seat"] ["p", "fallen"] (defScope s_law_right) :=
  ⟨rfl, rfl, rfl, by decide +kernel, rfl, by decide +kernel, by decide +kernel⟩
theorem ok_right (F : Fn K mg "_law_right" s_law_right) (T : Bl51 mg) (C_whole : Cal P w K mg base "_law_whole" 1 ["thing"] spWh) (Cfree : CalX P w K mg base "free" 5 ["p", "fallen"] (spFree K CN CT)) (Clies : Cal P w K mg base "lies" 4 ["p", "seat", "number"] (spLies K)) :
    Cal P w K mg base "_law_right" 6 ["p", "fallen"] (spRight K) := by
  refine cal_of F sc_law_right
    (fun _ _ _ _ _ _ us hl => match us, hl with | [_, _], _ => rfl) ?_ ?_
  · rintro vs H Q E ⟨p, a, xs, rfl, _⟩
    rfl
  rintro f cdv A outer s H vs Q E free hr ⟨p, a, xs, rfl, hp, ha, le, few, al, q⟩
  have pt := hp.top
  have p2 := hp.two
  have e := lstZ_eq p
  have e1 := pp_le pt
  have e2 : 0 ≤ (p : Int) * p := Int.mul_nonneg (by omega) (by omega)
  refine ⟨_, (pss_cons (ps_set (i := 2) sc_law_right.nd rfl (Or.inl rfl) (pe_callTy call_list_of (by rfl) T.list (by decide +kernel) (pa_cons (pv 1) pa_nil)))
    (pss_cons (ps_set (i := 3) sc_law_right.nd rfl (Or.inr rfl) (pe_calX0 Cfree (hr.mono (by decide)) (pa_cons (pv 0) (pa_cons (pv 2) pa_nil))))
    (pss_cons (ps_if (PW.pt (pw_or (pt_cmpR (op_neD (u64 hr)) (pv 2) (pv 1) (nomark _)) (pw_or (pt_not (pt_val (pe_cal C_whole free (hr.mono (by decide)) (pa_cons (pv 3) pa_nil)))) (pw_or (pt_cmpR op_lt (pv 3) pe_int (nomark _)) (pw_or1 (pt_cmpR op_gt (pv 3) (pe_op op_add (pe_op op_mul (pv 0) (pv 0)) (pv 0)) (nomark _)))))))
    (pss_one (ps_ret pe_bl))
    pss_nil)
    (pss_one (ps_ret (pe_cmpR (op_eqD (u64 hr)) (pe_lc (own := [("seat", 4)]) (g := gName 4)  (by rfl) sc_law_right.nd (pi_list (pv 1)) (blkOk_by (N := ["p", "fallen", "handed", "found", "seat"]) (sc := defScope s_law_right) (by decide +kernel)) (fun _ _ _ _ _ => pg_name (i := 4) sc_law_right.nd rfl (Or.inl rfl)) (fun _ _ _ _ _ => pts_one (pt_cmpR op_isnot_bl (pe_cal Clies free (hr.mono (by decide)) (pa_cons (pv 0) (pa_cons (pv 4) (pa_cons (pv 3) pa_nil)))) pe_bl (nomark _))) (fun _ _ _ _ _ => pe_int)) (pe_lst pa_nil) (nomark _))))))), ?_⟩
  refine ⟨_, rfl, a, _, rfl, .inl (SqL.of ha), fun l hl => ?_⟩
  have s1 := same_upd (o := .lst (xs.map V.int)) hl
  refine ⟨_, rfl, _, rfl, p, l, xs, rfl, hp, SqL.of upd_same, few, fun i z hz _ bad => absurd (al z (List.mem_of_getElem? hz)) bad, fun _ c => absurd c (by omega), fun _ _ n H1 s2 nin nl => ?_⟩
  have s3 := s1.trans s2
  refine ⟨_, rfl, _, rfl, _, _, dp_ints (s2 _ _ upd_same), dp_ints (s3 _ _ ha), shaped_ints _, shaped_ints _, _, rfl, iteF' (by rw [eqv_shaped (shaped_ints _)]; rfl) ?_⟩
  refine ⟨_, rfl, n, rfl, _, rfl, iteF' rfl ?_⟩
  refine ⟨_, rfl, _, _, rfl, rfl, _, rfl, iteF' (decide_eq_false (by have := nin.1; omega)) ?_⟩
  refine ⟨_, rfl, _, rfl, _, rfl, _, _, rfl, rfl, .inl ⟨by omega, by omega⟩, _, rfl, _, _, rfl, rfl, _, _, rfl, rfl, _, rfl, iteF' (decide_eq_false (by have := nin.2; omega)) ?_⟩
  refine ⟨_, rfl, a, rfl, ⟨_, SqL.of (s3 _ _ ha)⟩, fun D hD => ?_⟩
  refine lc_list (K := K) (a := a) (xs := xs.map V.int) (fun i G => Same H1 G ∧ G D = some (.lst [])) ⟨same_upd hD, upd_same⟩ (fun i G _ h => SqL.of (h.1 _ _ (s3 _ _ ha))) ?_ ?_
  · rintro i x G hx ⟨sG, kD⟩
    obtain ⟨k, hk, rfl⟩ := ints_at hx
    have m := List.mem_of_getElem? hk
    have kin := al k m
    refine ⟨rfl, _, rfl, _, rfl, _, rfl, p, k, n, rfl, hp, kin, nin, fun G2 s4 => ⟨_, _, rfl, rfl, _, rfl, iteF' (by rw [nl k m]; rfl) ?_⟩⟩
    exact ⟨sG.trans s4, s4 _ _ kD⟩
  rintro G ⟨sG, kD⟩
  refine ⟨by show 0 ≤ sizeLine; decide, fun l2 hl2 => ?_⟩
  have s5 := same_upd (o := .lst []) hl2
  refine ⟨_, _, dp_ints (ns := []) (s5 _ _ kD), dp_ints (ns := []) upd_same, shaped_ints [], shaped_ints [], ?_⟩
  rw [eqv_shaped (shaped_ints [])]
  exact q _ (s3.trans (sG.trans s5))
/-! ### what is refused -/
structure ExT (K : PySem.W.Frag) (mg : Str → Option Value) (CN CT CS CO CM : Addr) : Prop where
  gS : mg "SoleError" = some (.ref CS)
  gO : mg "NoSet" = some (.ref CO)
  gM : mg "TooMany" = some (.ref CM)
  gV : mg "ValueError" = none
  exN : PySem.W.exmOne K (.ref CN) (.ref CS) = some true
  exT : PySem.W.exmOne K (.ref CT) (.ref CS) = some true
  nO : PySem.W.kitOne K (.ref CN) (.ref CO) = some false
  nM : PySem.W.kitOne K (.ref CN) (.ref CM) = some false
  nV : PySem.W.kitOne K (.ref CN) (.type "ValueError") = some true
  nN : PySem.W.kitOne K (.ref CN) (.ref CN) = some true
  nT : PySem.W.kitOne K (.ref CN) (.ref CT) = some false
  tO : PySem.W.kitOne K (.ref CT) (.ref CO) = some false
  tM : PySem.W.kitOne K (.ref CT) (.ref CM) = some false
  tV : PySem.W.kitOne K (.ref CT) (.type "ValueError") = some true
  tN : PySem.W.kitOne K (.ref CT) (.ref CN) = some false
  tT : PySem.W.kitOne K (.ref CT) (.ref CT) = some true
def spMet (K : PySem.W.Frag) : Sp := fun vs H Q _ => ∃ (p : Nat) (a : Addr) (xs : List Int) (nm : Str) (v : Int), vs = [.int (p : Int), .ref a] ∧ Pr p ∧ SqL K H a (xs.map V.int) ∧ xs.length < 3000 ∧
  ((nm = "seat" ∧ ∃ i : Nat, xs[i]? = some v ∧ (∀ (j : Nat) y, j < i → xs[j]? = some y → InR p y) ∧ ¬ InR p v) ∨ (nm = "fallen" ∧ v = xs.length ∧ (∀ y ∈ xs, InR p y) ∧ p < xs.length)) ∧
  ∀ t H', Same H H' → H t = none → H' t = some (.tup [.str nm, .int v]) → Q (.ref t) H'
theorem sc_law_met : FnScope ["p", "fallen", "e"] ["p", "fallen"] (defScope s_law_met) :=
  ⟨rfl, rfl, rfl, by decide +kernel, rfl, by decide +kernel, by decide +kernel⟩
theorem ok_met {CS CO CM : Addr} (F : Fn K mg "_law_met" s_law_met) (T : Bl51 mg) (NT : XT P w K mg base CN "NoSeat" "seat") (TM : XT P w K mg base CT "TooManyFallen" "many") (Ex : ExT K mg CN CT CS CO CM) (Cfree : CalX P w K mg base "free" 5 ["p", "fallen"] (spFree K CN CT)) :
    Cal P w K mg base "_law_met" 6 ["p", "fallen"] (spMet K) := by
  have gS := Ex.gS
  refine cal_of F sc_law_met
    (fun _ _ _ _ _ _ us hl => match us, hl with | [_, _], _ => rfl) ?_ ?_
  · rintro vs H Q E ⟨p, a, xs, nm, v, rfl, _⟩
    rfl
  rintro f cdv A outer s H vs Q E free hr ⟨p, a, xs, nm, v, rfl, hp, hS, few, h, q⟩
-- [(0, 'p'), (1, 'fallen'), (2, 'e')]
  refine ⟨_, (pss_cons (ps_try_as (i := 2) rfl rfl sc_law_met.nd rfl rfl ⟨rfl, by decide, .inl gS⟩ takes0 (fun W pn xe tk _ => (pss_one (ps_expr (pe_calX Cfree (hr.mono (by decide)) tk (pa_cons (pv 0) (pa_cons (pv 1) pa_nil))))))
    (fun a oe cls d pn hz hf => (pss_cons (ps_if (PW.pt (pw_or (pt_val (pe_callB (call_isST hz hf) (by rfl) T.isinstance (by decide +kernel) (pa_cons (pv 2) (pa_cons (pe_tup (pa_cons (pe_glob (v := .ref CO) (by rfl) Ex.gO rfl) (pa_cons (pe_glob (v := .ref CM) (by rfl) Ex.gM rfl) pa_nil))) pa_nil)))) (pw_or1 (pt_not (pt_val (pe_callB (call_isS hz hf) (by rfl) T.isinstance (by decide +kernel) (pa_cons (pv 2) (pa_cons (pe_bltn (v := .ty "ValueError") (by rfl) Ex.gV (by decide +kernel) rfl) pa_nil))))))))
    (pss_one (ps_ret (pe_tup (pa_cons pe_str (pa_cons pe_int pa_nil)))))
    pss_nil)
    (pss_cons (ps_if (pt_cmpR op_eq (pe_callB (call_isS hz hf) (by rfl) T.isinstance (by decide +kernel) (pa_cons (pv 2) (pa_cons (pe_glob (v := .ref CN) (by rfl) NT.g rfl) pa_nil))) (pe_callB (call_isS hz hf) (by rfl) T.isinstance (by decide +kernel) (pa_cons (pv 2) (pa_cons (pe_glob (v := .ref CT) (by rfl) TM.g rfl) pa_nil))) (nomark _))
    (pss_one (ps_ret (pe_tup (pa_cons pe_str (pa_cons pe_int pa_nil)))))
    pss_nil)
    (pss_cons (ps_if (pt_val (pe_callB (call_isS hz hf) (by rfl) T.isinstance (by decide +kernel) (pa_cons (pv 2) (pa_cons (pe_glob (v := .ref CN) (by rfl) NT.g rfl) pa_nil))))
    (pss_one (ps_ret (pe_tup (pa_cons pe_str (pa_cons (pe_xf NT.xf NT.xc.no hz hf (pv 2)) pa_nil)))))
    pss_nil)
    (pss_one (ps_ret (pe_tup (pa_cons pe_str (pa_cons (pe_xf TM.xf TM.xc.no hz hf (pv 2)) pa_nil))))))))))
    (pss_one (ps_ret pe_non))), ?_⟩
  rcases h with ⟨rfl, i, hi, al, bad⟩ | ⟨rfl, rfl, al, lt⟩
  · have mi := List.mem_of_getElem? hi
    refine ⟨_, rfl, _, rfl, p, a, xs, rfl, hp, hS, few, fun i' z hz al' bad' dd H1 s1 hdd => ?_, fun all => absurd (all v mi) bad, fun all => absurd (all v mi) bad⟩
    have ez : z = v := by
      rcases Nat.lt_trichotomy i i' with c | c | c
      · exact absurd (al' i v c hi) bad
      · subst c
        rw [hi] at hz
        exact (Option.some.inj hz).symm
      · exact absurd (al i' z c hz) bad'
    subst ez
    refine ⟨true, Ex.exN, fun _ a0 ha0 => ?_, fun z => nomatch z⟩
    refine ⟨_, rfl, by show 2 ≤ sizeLine; decide, fun tp htp => ?_⟩
    have k0 : ∀ (o : HO), upd (upd H1 dd (.xd [("seat", V.int z)])) tp o dd = some (.xd [("seat", V.int z)]) := fun o => (upd_ne (ne_of_none upd_same htp)).trans upd_same
    refine ⟨CN, dd, tp, _, [.ref CO, .ref CM], false, rfl, rfl, NT.xh, rfl, upd_same, .cons (.own _) (.cons (.own _) .nil), kitAny_cons Ex.nO (fun _ => kitAny_cons Ex.nM (fun _ => kitAny_nil) (fun z => nomatch z)) (fun z => nomatch z), ⟨_, k0 _⟩, _, rfl, iteF' rfl ?_⟩
    refine ⟨_, rfl, CN, dd, .ty "ValueError", .type "ValueError", true, rfl, rfl, NT.xh, rfl, fun u r => r, Ex.nV, ⟨_, k0 _⟩, _, rfl, iteF' rfl ?_⟩
    refine ⟨_, rfl, CN, dd, .ref CN, .ref CN, true, rfl, rfl, NT.xh, rfl, fun u r => r, Ex.nN, ⟨_, k0 _⟩, ?_⟩
    refine ⟨_, rfl, CN, dd, .ref CT, .ref CT, false, rfl, rfl, NT.xh, rfl, fun u r => r, Ex.nT, ⟨_, k0 _⟩, rfl, _, rfl, iteF' (by decide) ?_⟩
    refine ⟨_, rfl, CN, dd, .ref CN, .ref CN, true, rfl, rfl, NT.xh, rfl, fun u r => r, Ex.nN, ⟨_, k0 _⟩, _, rfl, iteT' rfl ?_⟩
    refine ⟨_, rfl, rfl, rfl, dd, [("seat", V.int z)], .int z, rfl, k0 _, List.lookup_cons_self, by show 2 ≤ sizeLine; decide, fun t ht => ?_⟩
    have sA := (same_upd (o := .xd [("seat", V.int z)]) hdd).trans (same_upd (o := .tup [V.ref CO, V.ref CM]) htp)
    exact q t _ (s1.trans (sA.trans (same_upd ht))) ((s1.trans sA).free ht) upd_same
  · refine ⟨_, rfl, _, rfl, p, a, xs, rfl, hp, hS, few, fun i' z hz al' bad' => absurd (al z (List.mem_of_getElem? hz)) bad', fun _ _ dd H1 s1 hdd => ?_, fun _ le => absurd le (by omega)⟩
    refine ⟨true, Ex.exT, fun _ a0 ha0 => ?_, fun z => nomatch z⟩
    refine ⟨_, rfl, by show 2 ≤ sizeLine; decide, fun tp htp => ?_⟩
    have k0 : ∀ (o : HO), upd (upd H1 dd (.xd [("many", V.int xs.length)])) tp o dd = some (.xd [("many", V.int xs.length)]) := fun o => (upd_ne (ne_of_none upd_same htp)).trans upd_same
    refine ⟨CT, dd, tp, _, [.ref CO, .ref CM], false, rfl, rfl, TM.xh, rfl, upd_same, .cons (.own _) (.cons (.own _) .nil), kitAny_cons Ex.tO (fun _ => kitAny_cons Ex.tM (fun _ => kitAny_nil) (fun z => nomatch z)) (fun z => nomatch z), ⟨_, k0 _⟩, _, rfl, iteF' rfl ?_⟩
    refine ⟨_, rfl, CT, dd, .ty "ValueError", .type "ValueError", true, rfl, rfl, TM.xh, rfl, fun u r => r, Ex.tV, ⟨_, k0 _⟩, _, rfl, iteF' rfl ?_⟩
    refine ⟨_, rfl, CT, dd, .ref CN, .ref CN, false, rfl, rfl, TM.xh, rfl, fun u r => r, Ex.tN, ⟨_, k0 _⟩, ?_⟩
    refine ⟨_, rfl, CT, dd, .ref CT, .ref CT, true, rfl, rfl, TM.xh, rfl, fun u r => r, Ex.tT, ⟨_, k0 _⟩, rfl, _, rfl, iteF' (by decide) ?_⟩
    refine ⟨_, rfl, CT, dd, .ref CN, .ref CN, false, rfl, rfl, TM.xh, rfl, fun u r => r, Ex.tN, ⟨_, k0 _⟩, _, rfl, iteF' rfl ?_⟩
    refine ⟨_, rfl, rfl, rfl, dd, [("many", V.int xs.length)], .int xs.length, rfl, k0 _, List.lookup_cons_self, by show 2 ≤ sizeLine; decide, fun t ht => ?_⟩
    have sA := (same_upd (o := .xd [("many", V.int xs.length)]) hdd).trans (same_upd (o := .tup [V.ref CO, V.ref CM]) htp)
    exact q t _ (s1.trans (sA.trans (same_upd ht))) ((s1.trans sA).free ht) upd_same
end

end G0
namespace G0
open PySem PySem.Spec PyProof.Rows L2 NdefX ClX
section
variable {P : Program} {w : World} {K : PySem.W.Frag} {mg : Str → Option Value} {base : Heap} {CN CT : Addr}
theorem wideP {m : Int} (h0 : 0 < m) (h : m < 2 ^ 40) : m.natAbs < 2 ^ 250 := Nat.lt_of_lt_of_le (show m.natAbs < 2 ^ 40 by omega) (by decide)
/-! ### a seat -/
def spSeat (K : PySem.W.Frag) : Sp := fun vs H Q _ => ∃ (H0 : Hp) (s p : Addr) (ns : List Int) (n r : Nat) (core : Int), vs = [.ref s, .ref p, .int (r : Int), .int core] ∧ Fd K H0 s p ns n H ∧ n < 100000000 ∧ Pr r ∧ InR r core ∧
  ∀ (d : Int) H', InR r d → Fd K H0 s p ns (n + 2) H' → Chg p H H' → Q (.int d) H'
theorem sc_law_seat : FnScope ["script", "pot", "p", "core", "number", "way"] ["script", "pot", "p", "core"] (defScope s_law_seat) :=
  ⟨rfl, rfl, rfl, by decide +kernel, rfl, by decide +kernel, by decide +kernel⟩
theorem ok_seat (F : Fn K mg "_law_seat" s_law_seat) (C_take : Cal P w K mg base "_law_take" 2 ["script", "pot", "many"] (spTake K)) (Cshared : Cal P w K mg base "shared" 4 ["p", "one", "other"] (spShared K)) : Cal P w K mg base "_law_seat" 5 ["script", "pot", "p", "core"] (spSeat K) := by
  refine cal_of F sc_law_seat
    (fun _ _ _ _ _ _ us hl => match us, hl with | [_, _, _, _], _ => rfl) ?_ ?_
  · rintro vs H Q E ⟨H0, s, p, ns, n, r, core, rfl, _⟩
    rfl
  rintro f cdv A outer s' H vs Q E free hr ⟨H0, s, p, ns, n, r, core, rfl, D, nb, pr, cin, q⟩
  have r2 := pr.two
  have rt := pr.top
  have e := lstZ_eq r
  have e1 := pp_le rt
  have e2 : 0 ≤ (r : Int) * r := Int.mul_nonneg (by omega) (by omega)
  refine ⟨_, (pss_cons (ps_set (i := 4) sc_law_seat.nd rfl (Or.inl rfl) (pe_cal C_take free (hr.mono (by decide)) (pa_cons (pv 0) (pa_cons (pv 1) (pa_cons (pe_op op_add (pe_op op_add (pe_op op_mul (pv 2) (pv 2)) (pv 2)) pe_int) pa_nil)))))
    (pss_cons (ps_set (i := 5) sc_law_seat.nd rfl (Or.inl rfl) (pe_cal C_take free (hr.mono (by decide)) (pa_cons (pv 0) (pa_cons (pv 1) (pa_cons pe_int pa_nil)))))
    (pss_cons (ps_if (PW.pt (pw_and (pt_cmpR op_eq (pv 5) pe_int (nomark _)) (pw_and1 (pt_cmpR op_ne (pv 4) (pv 3) (nomark _)))))
    (pss_one (ps_ret (pe_cal Cshared free (hr.mono (by decide)) (pa_cons (pv 2) (pa_cons (pv 3) (pa_cons (pv 4) pa_nil))))))
    pss_nil)
    (pss_cons (ps_if (pt_cmpR op_eq (pv 5) pe_int (nomark _))
    (pss_one (ps_ret (pe_op op_mod (pv 4) (pe_op op_mul pe_int (pv 2)))))
    pss_nil)
    (pss_one (ps_ret (pv 4))))))), ?_⟩
  refine ⟨_, rfl, _, rfl, _, rfl, _, rfl, _, _, rfl, rfl, .inl ⟨by omega, by omega⟩, _, rfl, _, _, rfl, rfl, _, _, rfl, rfl, H0, s, p, ns, n, (r : Int) * r + r + 1, rfl, D, by omega, by omega, wideP (by omega) (by omega), fun d y d0 d1 Y => ?_⟩
  have D1 := D.put Y
  refine ⟨_, rfl, _, rfl, H0, s, p, ns, n + 1, 4, rfl, D1, by omega, by decide, by decide, fun d2 y2 _ _ Y2 => ?_⟩
  have D2 := D1.put Y2
  have c2 : Chg p H (upd (upd H p (.lst y)) p (.lst y2)) := Chg.self.trans Chg.self
  have din : InR r d := ⟨d0, by omega⟩
  refine ⟨_, rfl, rfl, _, rfl, ?_⟩
  rw [dec_ii]
  refine ite2 (fun c => ?_) (fun c => ?_)
  · refine ⟨_, rfl, _, rfl, rfl, _, rfl, ?_⟩
    rw [dec_ii]
    refine ite2 (fun c3 => ?_) (fun c3 => ?_)
    · have ne : d ≠ core := by simpa using c3
      exact ⟨_, rfl, _, rfl, _, rfl, r, core, d, rfl, pr, cin, din, ne.symm, fun z H' sz z0 z1 _ _ => q z H' ⟨z0, z1⟩ (D2.same sz) (c2.trans (Chg.same sz))⟩
    · skip
      refine ⟨_, rfl, rfl, _, rfl, ?_⟩
      rw [dec_ii]
      refine ite2 (fun c => ?_) (fun c => ?_)
      · refine ⟨_, rfl, _, rfl, _, _, rfl, rfl, .inl ⟨by omega, by omega⟩, _, _, rfl, rfl, (by show (0 : Int) < 2 * (r : Int); omega), ?_⟩
        have m0 := Int.emod_nonneg d (show 2 * (r : Int) ≠ 0 by omega)
        have m1 : d % (2 * (r : Int)) ≤ d := by
          rcases Int.lt_or_le d (2 * (r : Int)) with c | c
          · rw [Int.emod_eq_of_lt d0 c]; exact Int.le_refl _
          · have := Int.emod_lt_of_pos d (show (0 : Int) < 2 * (r : Int) by omega)
            omega
        exact q _ _ ⟨m0, by omega⟩ D2 c2
      · exact ⟨_, rfl, q _ _ din D2 c2⟩
  · skip
    refine ⟨_, rfl, rfl, _, rfl, ?_⟩
    rw [dec_ii]
    refine ite2 (fun c => ?_) (fun c => ?_)
    · refine ⟨_, rfl, _, rfl, _, _, rfl, rfl, .inl ⟨by omega, by omega⟩, _, _, rfl, rfl, (by show (0 : Int) < 2 * (r : Int); omega), ?_⟩
      have m0 := Int.emod_nonneg d (show 2 * (r : Int) ≠ 0 by omega)
      have m1 : d % (2 * (r : Int)) ≤ d := by
        rcases Int.lt_or_le d (2 * (r : Int)) with c | c
        · rw [Int.emod_eq_of_lt d0 c]; exact Int.le_refl _
        · have := Int.emod_lt_of_pos d (show (0 : Int) < 2 * (r : Int) by omega)
          omega
      exact q _ _ ⟨m0, by omega⟩ D2 c2
    · exact ⟨_, rfl, q _ _ din D2 c2⟩
end

end G0
namespace G0
open PySem PySem.Spec PyProof.Rows L2 NdefX ClX
section
variable {P : Program} {w : World} {K : PySem.W.Frag} {mg : Str → Option Value} {base : Heap} {CN CT : Addr}
/-! ### the law -/
theorem cut_to {xs : List Int} {j : Nat} (h : j ≤ xs.length) : cutV (xs.map V.int) none (some (j : Int)) = (xs.take j).map V.int := by
  unfold cutV
  rw [HT.sIx_none, HT.sIx_nat, List.drop_zero, List.map_take, List.length_map, Nat.sub_zero, Nat.min_eq_left h]
theorem cut_from {xs : List Int} {j : Nat} (h : j ≤ xs.length) : cutV (xs.map V.int) (some (j : Int)) none = (xs.drop j).map V.int := by
  unfold cutV
  rw [HT.sIx_none, HT.sIx_nat, List.length_map, Nat.min_eq_left h, List.map_drop, List.take_of_length_le (by rw [List.length_drop, List.length_map]; exact Nat.le_refl _)]
theorem dp_pair {H : Hp} {t : Addr} {z : Str} {v : Int} (h : H t = some (.tup [.str z, .int v])) : Dp K H (.ref t) (.tuple [.str z, .int v]) := .tup (SqT.of h) (.cons (.str _) (.cons (.int _) .nil))
def spLaw (K : PySem.W.Frag) : Sp := fun vs H Q _ => ∃ (a : Addr) (ns : List Int), vs = [.ref a] ∧ SqL K H a (ns.map V.int) ∧ ns.length ≤ 63 ∧ ∀ H', Q (.bl true) H'
theorem sc_law : FnScope ["script", "pot", "p", "many", "core", "fallen", "turn", "seat", "start", "top", "k", "at", "odd"] ["script"] (defScope s_law) :=
  ⟨rfl, rfl, rfl, by decide +kernel, rfl, by decide +kernel, by decide +kernel⟩
theorem ok_law (F : Fn K mg "law" s_law) (T : BlF mg) (C_prime : Cal P w K mg base "_law_prime" 3 ["script", "pot"] (spPrime K)) (C_take : Cal P w K mg base "_law_take" 2 ["script", "pot", "many"] (spTake K)) (C_seat : Cal P w K mg base "_law_seat" 5 ["script", "pot", "p", "core"] (spSeat K))
    (C_right : Cal P w K mg base "_law_right" 6 ["p", "fallen"] (spRight K)) (C_met : Cal P w K mg base "_law_met" 6 ["p", "fallen"] (spMet K)) : Cal P w K mg base "law" 7 ["script"] (spLaw K) := by
  refine cal_of F sc_law
    (fun _ _ _ _ _ _ us hl => match us, hl with | [_], _ => rfl) ?_ ?_
  · rintro vs H Q E ⟨a, ns, rfl, _⟩
    rfl
  rintro f cdv A outer s' H vs Q E free hr ⟨s, ns, rfl, hS, l63, q⟩
  refine ⟨_, (pss_cons (ps_set (i := 1) sc_law.nd rfl (Or.inl rfl) (pe_lst (pa_cons pe_int (pa_cons pe_int pa_nil))))
    (pss_cons (ps_set (i := 2) sc_law.nd rfl (Or.inl rfl) (pe_cal C_prime free (hr.mono (by decide)) (pa_cons (pv 0) (pa_cons (pv 1) pa_nil))))
    (pss_cons (ps_set (i := 3) sc_law.nd rfl (Or.inl rfl) (pe_op op_add (pe_op op_add (pe_op op_mul (pv 2) (pv 2)) (pv 2)) pe_int))
    (pss_cons (ps_set (i := 4) sc_law.nd rfl (Or.inl rfl) (pe_cal C_take free (hr.mono (by decide)) (pa_cons (pv 0) (pa_cons (pv 1) (pa_cons (pv 3) pa_nil)))))
    (pss_cons (ps_set (i := 5) sc_law.nd rfl (Or.inl rfl) (pe_lst pa_nil))
    (pss_cons (ps_for PassesOwn.never rfl (pi_range1 (by rfl) T.range (pa_cons pe_int pa_nil)) (pg_name (i := 6) sc_law.nd rfl (Or.inl rfl))
    (pss_cons (ps_if (PW.pt (pw_and (pt_cmpR u_in (pe_callB call_len_seq (by rfl) T.len (by decide +kernel) (pa_cons (pv 5) pa_nil)) (pe_tup (pa_cons pe_int (pa_cons pe_int (pa_cons pe_int (pa_cons pe_int (pa_cons pe_int (pa_cons pe_int (pa_cons pe_int pa_nil)))))))) (by rfl)) (pw_and1 (pt_not (pt_val (pe_cal C_right free (hr.mono (by decide)) (pa_cons (pv 2) (pa_cons (pv 5) pa_nil))))))))
    (pss_one (ps_ret pe_bl))
    pss_nil)
    (pss_cons (ps_set (i := 7) sc_law.nd rfl (Or.inl rfl) (pe_cal C_seat free (hr.mono (by decide)) (pa_cons (pv 0) (pa_cons (pv 1) (pa_cons (pv 2) (pa_cons (pv 4) pa_nil))))))
    (pss_one (ps_if (PW.pt (pw_and (pt_cmpR u_notin (pv 7) (pv 5) (by rfl)) (pw_and1 (pt_cmpR op_lt (pe_callB call_len_seq (by rfl) T.len (by decide +kernel) (pa_cons (pv 5) pa_nil)) (pv 2) (nomark _)))))
    (pss_one (ps_expr (pe_bm PySem.F.plainAttrs_list PySem.F.slot_list_insert PySem.F.type_list_insert mt_insert (pv 5) (pa_cons (pe_cal C_take free (hr.mono (by decide)) (pa_cons (pv 0) (pa_cons (pv 1) (pa_cons (pe_op op_add (pe_callB call_len_seq (by rfl) T.len (by decide +kernel) (pa_cons (pv 5) pa_nil)) pe_int) pa_nil)))) (pa_cons (pv 7) pa_nil)))))
    pss_nil)))))
    (pss_cons (ps_if (pt_not (pt_val (pe_cal C_right free (hr.mono (by decide)) (pa_cons (pv 2) (pa_cons (pv 5) pa_nil)))))
    (pss_one (ps_ret pe_bl))
    pss_nil)
    (pss_cons (ps_set (i := 8) sc_law.nd rfl (Or.inl rfl) (pe_cal C_take free (hr.mono (by decide)) (pa_cons (pv 0) (pa_cons (pv 1) (pa_cons (pv 3) pa_nil)))))
    (pss_cons (ps_set (i := 9) sc_law.nd rfl (Or.inl rfl) (pe_callB (call_min2 rfl) (by rfl) T.min (by decide +kernel) (pa_cons (pe_op op_add (pe_op op_add (pv 2) pe_int) (pe_cal C_take free (hr.mono (by decide)) (pa_cons (pv 0) (pa_cons (pv 1) (pa_cons pe_int pa_nil))))) (pa_cons pe_int pa_nil))))
    (pss_cons (ps_for PassesOwn.never rfl (pi_range1 (by rfl) T.range (pa_cons pe_int pa_nil)) (pg_name (i := 10) sc_law.nd rfl (Or.inl rfl))
    (pss_cons (ps_set (i := 7) sc_law.nd rfl (Or.inl rfl) (pe_op op_mod (pe_op op_add (pv 8) (pv 10)) (pv 3)))
    (pss_one (ps_if (PW.pt (pw_and (pt_cmpR u_notin (pv 7) (pv 5) (by rfl)) (pw_and1 (pt_cmpR op_lt (pe_callB call_len_seq (by rfl) T.len (by decide +kernel) (pa_cons (pv 5) pa_nil)) (pv 9) (nomark _)))))
    (pss_cons (ps_expr (pe_bm PySem.F.plainAttrs_list PySem.F.slot_list_append PySem.F.type_list_append mt_append (pv 5) (pa_cons (pv 7) pa_nil)))
    (pss_one (ps_if (PW.pt (pw_and (pt_cmpR op_eq (pe_callB call_len_seq (by rfl) T.len (by decide +kernel) (pa_cons (pv 5) pa_nil)) (pv 2) (nomark _)) (pw_and1 (pt_not (pt_val (pe_cal C_right free (hr.mono (by decide)) (pa_cons (pv 2) (pa_cons (pv 5) pa_nil))))))))
    (pss_one (ps_ret pe_bl))
    pss_nil)))
    pss_nil))))
    (pss_cons (ps_if (PW.pt (pw_and (pt_cmpR op_gt (pe_callB call_len_seq (by rfl) T.len (by decide +kernel) (pa_cons (pv 5) pa_nil)) (pv 2) (nomark _)) (pw_and1 (pt_cmpR (op_neD (u64 hr)) (pe_cal C_met free (hr.mono (by decide)) (pa_cons (pv 2) (pa_cons (pv 5) pa_nil))) (pe_tup (pa_cons pe_str (pa_cons (pe_callB call_len_seq (by rfl) T.len (by decide +kernel) (pa_cons (pv 5) pa_nil)) pa_nil))) (nomark _)))))
    (pss_one (ps_ret pe_bl))
    pss_nil)
    (pss_cons (ps_if (PW.pt (pw_and (pt_cmpR op_le (pe_callB call_len_seq (by rfl) T.len (by decide +kernel) (pa_cons (pv 5) pa_nil)) (pv 2) (nomark _)) (pw_and1 (pt_not (pt_val (pe_cal C_right free (hr.mono (by decide)) (pa_cons (pv 2) (pa_cons (pv 5) pa_nil))))))))
    (pss_one (ps_ret pe_bl))
    pss_nil)
    (pss_cons (ps_set (i := 11) sc_law.nd rfl (Or.inl rfl) (pe_cal C_take free (hr.mono (by decide)) (pa_cons (pv 0) (pa_cons (pv 1) (pa_cons (pe_op op_add (pe_callB call_len_seq (by rfl) T.len (by decide +kernel) (pa_cons (pv 5) pa_nil)) pe_int) pa_nil)))))
    (pss_cons (ps_set (i := 12) sc_law.nd rfl (Or.inl rfl) (pe_ix ix_list (pe_lst (pa_cons (pe_un un_neg pe_int) (pa_cons (pv 3) (pa_cons (pe_op op_add (pv 3) (pv 4)) pa_nil)))) (pe_cal C_take free (hr.mono (by decide)) (pa_cons (pv 0) (pa_cons (pv 1) (pa_cons pe_int pa_nil)))) (fun _ _ => rfl)))
    (pss_one (ps_ret (pe_cmpR (op_eqD (u64 hr)) (pe_cal C_met free (hr.mono (by decide)) (pa_cons (pv 2) (pa_cons (pe_op op_cat (pe_op op_cat (pe_op op_cat (pe_slice sl_list (pv 5) po_none (po_some (pv 11))) (pe_lst (pa_cons (pv 12) pa_nil))) (pe_slice sl_list (pv 5) (po_some (pv 11)) po_none)) (pe_lst (pa_cons (pe_un un_neg pe_int) pa_nil))) pa_nil))) (pe_tup (pa_cons pe_str (pa_cons (pv 12) pa_nil))) (nomark _)))))))))))))))))), ?_⟩
  refine ⟨by show 2 ≤ sizeLine; decide, fun p hp => ?_⟩
  have D0 : Fd K H s p ns 0 (upd H p (.lst [.int 0, .int 0])) := ⟨same_upd hp, hp, hS, _, upd_same, 0, 0, rfl, Nat.le_refl _, Int.le_refl _⟩
  refine ⟨_, rfl, _, rfl, H, s, p, ns, 0, rfl, D0, by omega, fun r G1 pr D1 c1 => ?_⟩
  have r2 := pr.two
  have rt := pr.top
  have e := lstZ_eq r
  have e1 := pp_le rt
  have e2 : 0 ≤ (r : Int) * r := Int.mul_nonneg (by omega) (by omega)
  refine ⟨_, rfl, _, rfl, _, _, rfl, rfl, .inl ⟨by omega, by omega⟩, _, rfl, _, _, rfl, rfl, _, _, rfl, rfl, ?_⟩
  refine ⟨_, rfl, _, rfl, _, rfl, H, s, p, ns, 2, (r : Int) * r + r + 1, rfl, D1, by omega, by omega, wideP (by omega) (by omega), fun core y2 k0 k1 Y2 => ?_⟩
  refine ⟨by show 0 ≤ sizeLine; decide, fun l hl => ?_⟩
  have D2 := D1.put Y2
  have lp : l ≠ p := D2.ne hl
  have l0 : H l = none := D2.old.free hl
  have cin : InR r core := ⟨k0, by omega⟩
  have big : ∀ {i : Nat}, i ≤ 3000 → i < sizeLine := fun h => Nat.lt_of_le_of_lt h (by decide)
  refine ⟨_, rfl, by decide, by decide, ?_⟩
  refine for_range (lo := 0) (n := 60) (fun i σ G => (∃ z6 z7 : Option V, σ = [some (V.ref s), some (V.ref p), some (V.int (r : Int)), some (V.int ((r : Int) * r + r + 1)), some (V.int core), some (V.ref l), z6, z7, none, none, none, none, none]) ∧ Fd K H s p ns (3 + 3 * i) G ∧ ∃ xs : List Int, G l = some (.lst (xs.map V.int)) ∧ xs.length ≤ i ∧ xs.length ≤ r ∧ ∀ y ∈ xs, InR r y)
    ⟨⟨_, _, rfl⟩, D2.same (same_upd hl), [], upd_same, Nat.le_refl _, Nat.zero_le _, fun y h => by simp at h⟩ ?_ ?_
  · rintro i σ G hi ⟨⟨z6, z7, rfl⟩, DG, xs, kl, li, lr, al⟩
    refine ⟨_, rfl, l, _, rfl, .inl (SqL.of kl), by show 7 ≤ sizeLine; decide, fun t ht => .inl ⟨t, _, rfl, .inr (SqT.of upd_same), rfl, rfl, _, rfl, ?_⟩⟩
    obtain ⟨G4, eG4⟩ : ∃ G4, G4 = upd G t (.tup [.int 0, .int 1, .int 2, .int 4, .int 7, .int 19, .int 40]) := ⟨_, rfl⟩
    have s4 : Same G G4 := by rw [eG4]; exact same_upd ht
    rw [← eG4]
    have k4 := s4 _ _ kl
    have D4 := DG.same s4
    refine ite2 (fun c => ?_) (fun c => ?_)
    · refine ⟨_, rfl, _, rfl, r, l, xs, rfl, pr, k4, lr, by omega, al, fun G5 s5 => ⟨_, rfl, iteF' rfl ?_⟩⟩
      have D5 := D4.same s5
      have k5 := s5 _ _ k4
      refine ⟨_, rfl, _, rfl, _, rfl, _, rfl, H, s, p, ns, 3 + 3 * i, r, core, rfl, D5, by omega, pr, cin, fun d G6 din D6 c6 => ?_⟩
      have k6 := c6 _ _ lp (k5)
      refine ⟨_, rfl, _, rfl, .inl ⟨l, _, rfl, .inl (SqL.of k6), rfl, flat_ints _, _, rfl, ?_⟩⟩
      refine ite2 (fun c => ?_) (fun c => ?_)
      · refine ⟨_, rfl, l, _, rfl, .inl (SqL.of k6), _, rfl, _, _, rfl, rfl, _, rfl, ?_⟩
        rw [List.length_map]
        refine ite2 (fun c2 => ?_) (fun c2 => ?_)
        · have c3 : xs.length < r := by have := of_decide_eq_true c2; omega
          refine ⟨_, rfl, .inl ⟨rfl, _, SqL.of k6⟩, _, rfl, _, rfl, _, rfl, l, _, rfl, .inl (SqL.of k6), ?_⟩
          rw [List.length_map]
          refine ⟨_, _, rfl, rfl, H, s, p, ns, 3 + 3 * i + 2, (xs.length : Int) + 1, rfl, D6, by omega, by omega, wideP (by omega) (by omega), fun j y3 j0 j1 Y3 => ?_⟩
          refine ⟨_, rfl, l, _, j, .int d, rfl, rfl, (upd_ne lp).trans k6, by rw [List.length_map]; exact big (by omega), j0, by omega, ?_⟩
          refine ⟨⟨_, _, rfl⟩, ((D6.put Y3).mono (by omega)).mut l0 lp, xs.take j.toNat ++ [d] ++ xs.drop j.toNat, ?_, ?_, ?_, fun y hy => ?_⟩
          · rw [upd_same, List.map_append, List.map_append, List.map_take, List.map_drop]
            rfl
          · rw [List.length_append, List.length_append, List.length_take, List.length_drop, List.length_singleton]
            omega
          · rw [List.length_append, List.length_append, List.length_take, List.length_drop, List.length_singleton]
            omega
          · rw [List.mem_append, List.mem_append, List.mem_singleton] at hy
            rcases hy with (hy | hy) | hy
            · exact al y (List.mem_of_mem_take hy)
            · rw [hy]; exact din
            · exact al y (List.mem_of_mem_drop hy)
        · exact ⟨⟨_, _, rfl⟩, D6.mono (by omega), xs, k6, by omega, lr, al⟩
      · exact ⟨⟨_, _, rfl⟩, D6.mono (by omega), xs, k6, by omega, lr, al⟩
    · skip
      refine ⟨_, rfl, _, rfl, _, rfl, _, rfl, H, s, p, ns, 3 + 3 * i, r, core, rfl, D4, by omega, pr, cin, fun d G6 din D6 c6 => ?_⟩
      have k6 := c6 _ _ lp (k4)
      refine ⟨_, rfl, _, rfl, .inl ⟨l, _, rfl, .inl (SqL.of k6), rfl, flat_ints _, _, rfl, ?_⟩⟩
      refine ite2 (fun c => ?_) (fun c => ?_)
      · refine ⟨_, rfl, l, _, rfl, .inl (SqL.of k6), _, rfl, _, _, rfl, rfl, _, rfl, ?_⟩
        rw [List.length_map]
        refine ite2 (fun c2 => ?_) (fun c2 => ?_)
        · have c3 : xs.length < r := by have := of_decide_eq_true c2; omega
          refine ⟨_, rfl, .inl ⟨rfl, _, SqL.of k6⟩, _, rfl, _, rfl, _, rfl, l, _, rfl, .inl (SqL.of k6), ?_⟩
          rw [List.length_map]
          refine ⟨_, _, rfl, rfl, H, s, p, ns, 3 + 3 * i + 2, (xs.length : Int) + 1, rfl, D6, by omega, by omega, wideP (by omega) (by omega), fun j y3 j0 j1 Y3 => ?_⟩
          refine ⟨_, rfl, l, _, j, .int d, rfl, rfl, (upd_ne lp).trans k6, by rw [List.length_map]; exact big (by omega), j0, by omega, ?_⟩
          refine ⟨⟨_, _, rfl⟩, ((D6.put Y3).mono (by omega)).mut l0 lp, xs.take j.toNat ++ [d] ++ xs.drop j.toNat, ?_, ?_, ?_, fun y hy => ?_⟩
          · rw [upd_same, List.map_append, List.map_append, List.map_take, List.map_drop]
            rfl
          · rw [List.length_append, List.length_append, List.length_take, List.length_drop, List.length_singleton]
            omega
          · rw [List.length_append, List.length_append, List.length_take, List.length_drop, List.length_singleton]
            omega
          · rw [List.mem_append, List.mem_append, List.mem_singleton] at hy
            rcases hy with (hy | hy) | hy
            · exact al y (List.mem_of_mem_take hy)
            · rw [hy]; exact din
            · exact al y (List.mem_of_mem_drop hy)
        · exact ⟨⟨_, _, rfl⟩, D6.mono (by omega), xs, k6, by omega, lr, al⟩
      · exact ⟨⟨_, _, rfl⟩, D6.mono (by omega), xs, k6, by omega, lr, al⟩
  rintro σ G ⟨⟨z6, z7, rfl⟩, DG, xs, kl, li, lr, al⟩
  refine ⟨_, rfl, _, rfl, r, l, xs, rfl, pr, kl, lr, by omega, al, fun G5 s5 => ⟨_, rfl, iteF' rfl ?_⟩⟩
  have D5 := DG.same s5
  have k5 := s5 _ _ kl
  refine ⟨_, rfl, _, rfl, _, rfl, H, s, p, ns, 3 + 3 * 60, (r : Int) * r + r + 1, rfl, D5, by omega, by omega, wideP (by omega) (by omega), fun st y6 st0 st1 Y6 => ?_⟩
  have D6 := D5.put Y6
  have k6 := (upd_ne (o := .lst y6) lp).trans k5
  refine ⟨_, rfl, _, _, rfl, rfl, _, rfl, _, rfl, H, s, p, ns, 184, 3, rfl, D6, by omega, by omega, wideP (by omega) (by omega), fun u7 y7 u0 u1 Y7 => ⟨_, _, rfl, rfl, _, _, rfl, ?_⟩⟩
  have D7 := D6.put Y7
  have k7 := (upd_ne (o := .lst y7) lp).trans k6
  obtain ⟨G7, eG7⟩ : ∃ G7, G7 = upd (upd G5 p (.lst y6)) p (.lst y7) := ⟨_, rfl⟩
  rw [← eG7] at D7 k7 ⊢
  obtain ⟨top, et, t120⟩ : ∃ top : Int, (if (120 : Int) < (r : Int) + 1 + u7 then 120 else (r : Int) + 1 + u7) = top ∧ top ≤ 120 := ⟨_, rfl, by split <;> omega⟩
  show gName 9 (V.int (if (120 : Int) < (r : Int) + 1 + u7 then 120 else (r : Int) + 1 + u7)) _ G7 _
  rw [et]
  refine ⟨_, rfl, by decide, by decide, ?_⟩
  refine for_range (lo := 0) (n := 120) (fun i σ G => (∃ z6 z7 z10 : Option V, σ = [some (V.ref s), some (V.ref p), some (V.int (r : Int)), some (V.int ((r : Int) * r + r + 1)), some (V.int core), some (V.ref l), z6, z7, some (V.int st), some (V.int top), z10, none, none]) ∧ Fd K H s p ns 185 G ∧ ∃ xs : List Int, G l = some (.lst (xs.map V.int)) ∧ xs.length ≤ 120 ∧ ∀ y ∈ xs, InR r y)
    ⟨⟨_, _, _, rfl⟩, D7, xs, k7, by omega, al⟩ ?_ ?_
  · rintro i σ G hi ⟨⟨z6, z7, z10, rfl⟩, DG, xs, kl, li, al⟩
    refine ⟨_, rfl, _, rfl, _, _, rfl, rfl, _, rfl, _, _, rfl, rfl, (by show (0 : Int) < (r : Int) * r + r + 1; omega), ?_⟩
    show gName 7 (V.int ((st + (0 + (i : Int))) % ((r : Int) * r + r + 1))) _ G _
    obtain ⟨d, hd⟩ : ∃ d : Int, (st + (0 + (i : Int))) % ((r : Int) * r + r + 1) = d := ⟨_, rfl⟩
    have din : InR r d := by
      have d0 := Int.emod_nonneg (st + (0 + (i : Int))) (show (r : Int) * r + r + 1 ≠ 0 by omega)
      have d1 := Int.emod_lt_of_pos (st + (0 + (i : Int))) (show 0 < (r : Int) * r + r + 1 by omega)
      exact ⟨by omega, by omega⟩
    rw [hd]
    refine ⟨_, rfl, _, rfl, .inl ⟨l, _, rfl, .inl (SqL.of kl), rfl, flat_ints _, _, rfl, ?_⟩⟩
    refine ite2 (fun c => ?_) (fun c => ?_)
    · refine ⟨_, rfl, l, _, rfl, .inl (SqL.of kl), _, rfl, _, _, rfl, rfl, _, rfl, ?_⟩
      rw [List.length_map]
      refine ite2 (fun c2 => ?_) (fun c2 => ?_)
      · have c3 : (xs.length : Int) < top := of_decide_eq_true c2
        refine ⟨_, rfl, .inl ⟨rfl, _, SqL.of kl⟩, _, rfl, l, _, _, rfl, rfl, kl, by rw [List.length_map]; exact big (by omega), ?_⟩
        obtain ⟨G8, eG8⟩ : ∃ G8, G8 = upd G l (.lst (xs.map V.int ++ [.int d])) := ⟨_, rfl⟩
        have D8 : Fd K H s p ns 185 G8 := by rw [eG8]; exact DG.mut l0 lp
        have k8 : G8 l = some (.lst ((xs ++ [d]).map V.int)) := by rw [eG8, upd_same, List.map_append]; rfl
        rw [← eG8]
        have al8 : ∀ y ∈ xs ++ [d], InR r y := fun y hy => by
          rw [List.mem_append, List.mem_singleton] at hy
          rcases hy with hy | hy
          · exact al y hy
          · rw [hy]; exact din
        have l8 : (xs ++ [d]).length ≤ 120 := by rw [List.length_append, List.length_singleton]; omega
        refine ⟨_, rfl, l, _, rfl, .inl (SqL.of k8), _, rfl, rfl, _, rfl, ?_⟩
        rw [dec_ii, List.length_map]
        refine ite2 (fun c4 => ?_) (fun c4 => ?_)
        · have c5 : (((xs ++ [d]).length : Nat) : Int) = (r : Int) := of_decide_eq_true c4
          refine ⟨_, rfl, _, rfl, r, l, xs ++ [d], rfl, pr, k8, by omega, by omega, al8, fun G9 s9 => ⟨_, rfl, iteF' rfl ?_⟩⟩
          exact ⟨⟨_, _, _, rfl⟩, D8.same s9, xs ++ [d], s9 _ _ k8, l8, al8⟩
        · exact ⟨⟨_, _, _, rfl⟩, D8, xs ++ [d], k8, l8, al8⟩
      · exact ⟨⟨_, _, _, rfl⟩, DG, xs, kl, li, al⟩
    · exact ⟨⟨_, _, _, rfl⟩, DG, xs, kl, li, al⟩
  rintro σ G ⟨⟨z6, z7, z10, rfl⟩, DG, xs, kl, li, al⟩
  refine ⟨_, rfl, l, _, rfl, .inl (SqL.of kl), _, rfl, _, _, rfl, rfl, _, rfl, ?_⟩
  rw [List.length_map]
  by_cases c : r < xs.length
  · refine iteT' (decide_eq_true (by omega)) ?_
    refine ⟨_, rfl, _, rfl, r, l, xs, "fallen", xs.length, rfl, pr, SqL.of kl, by omega, .inr ⟨rfl, rfl, al, c⟩, fun t G8 s8 ht kt => ?_⟩
    have k8 := s8 _ _ kl
    refine ⟨_, rfl, l, _, rfl, .inl (SqL.of k8), ?_⟩
    rw [List.length_map]
    refine ⟨by show 2 ≤ sizeLine; decide, fun t2 ht2 => ?_⟩
    have s9 := same_upd (o := .tup [V.str "fallen", .int xs.length]) ht2
    refine ⟨_, _, dp_pair (s9 _ _ kt), dp_pair upd_same, shaped_pair (by decide +kernel) _, shaped_pair (by decide +kernel) _, _, rfl, iteF' (by rw [eqv_shaped (shaped_pair (by decide +kernel) _)]; rfl) ?_⟩
    have k9 := s9 _ _ k8
    have D9 := (DG.same s8).same s9
    refine ⟨_, rfl, l, _, rfl, .inl (SqL.of k9), _, rfl, _, _, rfl, rfl, _, rfl, ?_⟩
    rw [List.length_map]
    refine iteF' (decide_eq_false (by omega)) ?_
    refine ⟨_, rfl, _, rfl, _, rfl, l, _, rfl, .inl (SqL.of k9), ?_⟩
    rw [List.length_map]
    refine ⟨_, _, rfl, rfl, H, s, p, ns, 185, (xs.length : Int) + 1, rfl, D9, by omega, by omega, wideP (by omega) (by omega), fun jz y9 j0 j1 Y9 => ?_⟩
    obtain ⟨j, rfl⟩ : ∃ j : Nat, jz = (j : Int) := ⟨jz.toNat, by omega⟩
    have DA := (D9).put Y9
    have kA := (upd_ne (o := .lst y9) lp).trans k9
    refine ⟨_, rfl, _, rfl, _, rfl, _, rfl, _, _, rfl, rfl, by show 3 ≤ sizeLine; decide, fun l3 hl3 => ?_⟩
    have s3 := same_upd (o := .lst [V.int (-1), .int ((r : Int) * r + r + 1), .int ((r : Int) * r + r + 1 + core)]) hl3
    refine ⟨_, rfl, _, rfl, H, s, p, ns, 186, 3, rfl, DA.same s3, by omega, by decide, by decide, fun u yB u0 u1 YB => ?_⟩
    obtain ⟨od, eo, bad⟩ : ∃ od : Int, atI [V.int (-1), .int ((r : Int) * r + r + 1), .int ((r : Int) * r + r + 1 + core)] u = some (.int od) ∧ ¬ InR r od := by
      have : u = 0 ∨ u = 1 ∨ u = 2 := by omega
      rcases this with rfl | rfl | rfl
      · exact ⟨_, rfl, fun h => by have := h.1; omega⟩
      · exact ⟨_, rfl, fun h => by have := h.2; omega⟩
      · exact ⟨_, rfl, fun h => by have := h.2; omega⟩
    have lp3 : l3 ≠ p := DA.ne hl3
    refine ⟨l3, _, u, _, rfl, rfl, SqL.of ((upd_ne lp3).trans upd_same), eo, ?_⟩
    have kB := (upd_ne (o := .lst yB) lp).trans (s3 _ _ kA)
    refine ⟨_, rfl, _, rfl, _, rfl, _, rfl, l, _, rfl, SqL.of kB, fun b1 hb1 => ?_⟩
    rw [cut_to (by omega)]
    have t1 := same_upd (o := .lst ((xs.take j).map V.int)) hb1
    refine ⟨_, rfl, by show 1 ≤ sizeLine; decide, fun b2 hb2 => ?_⟩
    have t2 := same_upd (o := .lst [V.int od]) hb2
    refine ⟨b1, b2, _, _, rfl, rfl, t2 _ _ upd_same, upd_same, by rw [List.length_map, List.length_take, List.length_singleton]; exact Nat.le_of_lt (big (by omega)), fun b3 hb3 => ?_⟩
    have t3 := same_upd (o := .lst ((xs.take j).map V.int ++ [V.int od])) hb3
    refine ⟨_, rfl, _, rfl, _, rfl, l, _, rfl, SqL.of (t3 _ _ (t2 _ _ (t1 _ _ kB))), fun b4 hb4 => ?_⟩
    rw [cut_from (by omega)]
    have t4 := same_upd (o := .lst ((xs.drop j).map V.int)) hb4
    refine ⟨b3, b4, _, _, rfl, rfl, t4 _ _ upd_same, upd_same, by rw [List.length_append, List.length_map, List.length_map, List.length_take, List.length_drop, List.length_singleton]; exact Nat.le_of_lt (big (by omega)), fun b5 hb5 => ?_⟩
    have t5 := same_upd (o := .lst ((xs.take j).map V.int ++ [V.int od] ++ (xs.drop j).map V.int)) hb5
    refine ⟨_, rfl, by show 1 ≤ sizeLine; decide, fun b6 hb6 => ?_⟩
    have t6 := same_upd (o := .lst [V.int (-7)]) hb6
    refine ⟨b5, b6, _, _, rfl, rfl, t6 _ _ upd_same, upd_same, by rw [List.length_append, List.length_append, List.length_map, List.length_map, List.length_take, List.length_drop, List.length_singleton, List.length_singleton]; exact Nat.le_of_lt (big (by omega)), fun b7 hb7 => ?_⟩
    have eW : (xs.take j).map V.int ++ [V.int od] ++ (xs.drop j).map V.int ++ [V.int (-7)] = (xs.take j ++ [od] ++ xs.drop j ++ [-7]).map V.int := by
      rw [List.map_append, List.map_append, List.map_append]
      rfl
    rw [eW]
    refine ⟨r, b7, xs.take j ++ [od] ++ xs.drop j ++ [-7], "seat", od, rfl, pr, SqL.of upd_same, ?_, .inl ⟨rfl, j, ?_, fun i y hi hy => ?_, bad⟩, fun tt GF sF htt ktt => ?_⟩
    · rw [List.length_append, List.length_append, List.length_append, List.length_take, List.length_drop, List.length_singleton, List.length_singleton]
      omega
    · rw [List.append_assoc, List.append_assoc, List.getElem?_append_right (by rw [List.length_take]; omega)]
      rw [List.length_take, Nat.min_eq_left (by omega), Nat.sub_self]
      rfl
    · rw [List.append_assoc, List.append_assoc, List.getElem?_append_left (by rw [List.length_take]; omega)] at hy
      exact al y (List.mem_of_mem_take (List.mem_of_getElem? hy))
    refine ⟨_, rfl, by show 2 ≤ sizeLine; decide, fun tu htu => ?_⟩
    refine ⟨_, _, dp_pair ((same_upd (o := .tup [V.str "seat", V.int od]) htu) _ _ ktt), dp_pair upd_same, shaped_pair (by decide +kernel) _, shaped_pair (by decide +kernel) _, ?_⟩
    rw [eqv_shaped (shaped_pair (by decide +kernel) _)]
    exact q _
  · refine iteF' (decide_eq_false (by omega)) ?_
    refine ⟨_, rfl, l, _, rfl, .inl (SqL.of kl), _, rfl, _, _, rfl, rfl, _, rfl, ?_⟩
    rw [List.length_map]
    refine iteT' (decide_eq_true (by omega)) ?_
    refine ⟨_, rfl, _, rfl, r, l, xs, rfl, pr, kl, by omega, by omega, al, fun G8 s8 => ⟨_, rfl, iteF' rfl ?_⟩⟩
    have k9 := s8 _ _ kl
    have D9 := DG.same s8
    refine ⟨_, rfl, _, rfl, _, rfl, l, _, rfl, .inl (SqL.of k9), ?_⟩
    rw [List.length_map]
    refine ⟨_, _, rfl, rfl, H, s, p, ns, 185, (xs.length : Int) + 1, rfl, D9, by omega, by omega, wideP (by omega) (by omega), fun jz y9 j0 j1 Y9 => ?_⟩
    obtain ⟨j, rfl⟩ : ∃ j : Nat, jz = (j : Int) := ⟨jz.toNat, by omega⟩
    have DA := (D9).put Y9
    have kA := (upd_ne (o := .lst y9) lp).trans k9
    refine ⟨_, rfl, _, rfl, _, rfl, _, rfl, _, _, rfl, rfl, by show 3 ≤ sizeLine; decide, fun l3 hl3 => ?_⟩
    have s3 := same_upd (o := .lst [V.int (-1), .int ((r : Int) * r + r + 1), .int ((r : Int) * r + r + 1 + core)]) hl3
    refine ⟨_, rfl, _, rfl, H, s, p, ns, 186, 3, rfl, DA.same s3, by omega, by decide, by decide, fun u yB u0 u1 YB => ?_⟩
    obtain ⟨od, eo, bad⟩ : ∃ od : Int, atI [V.int (-1), .int ((r : Int) * r + r + 1), .int ((r : Int) * r + r + 1 + core)] u = some (.int od) ∧ ¬ InR r od := by
      have : u = 0 ∨ u = 1 ∨ u = 2 := by omega
      rcases this with rfl | rfl | rfl
      · exact ⟨_, rfl, fun h => by have := h.1; omega⟩
      · exact ⟨_, rfl, fun h => by have := h.2; omega⟩
      · exact ⟨_, rfl, fun h => by have := h.2; omega⟩
    have lp3 : l3 ≠ p := DA.ne hl3
    refine ⟨l3, _, u, _, rfl, rfl, SqL.of ((upd_ne lp3).trans upd_same), eo, ?_⟩
    have kB := (upd_ne (o := .lst yB) lp).trans (s3 _ _ kA)
    refine ⟨_, rfl, _, rfl, _, rfl, _, rfl, l, _, rfl, SqL.of kB, fun b1 hb1 => ?_⟩
    rw [cut_to (by omega)]
    have t1 := same_upd (o := .lst ((xs.take j).map V.int)) hb1
    refine ⟨_, rfl, by show 1 ≤ sizeLine; decide, fun b2 hb2 => ?_⟩
    have t2 := same_upd (o := .lst [V.int od]) hb2
    refine ⟨b1, b2, _, _, rfl, rfl, t2 _ _ upd_same, upd_same, by rw [List.length_map, List.length_take, List.length_singleton]; exact Nat.le_of_lt (big (by omega)), fun b3 hb3 => ?_⟩
    have t3 := same_upd (o := .lst ((xs.take j).map V.int ++ [V.int od])) hb3
    refine ⟨_, rfl, _, rfl, _, rfl, l, _, rfl, SqL.of (t3 _ _ (t2 _ _ (t1 _ _ kB))), fun b4 hb4 => ?_⟩
    rw [cut_from (by omega)]
    have t4 := same_upd (o := .lst ((xs.drop j).map V.int)) hb4
    refine ⟨b3, b4, _, _, rfl, rfl, t4 _ _ upd_same, upd_same, by rw [List.length_append, List.length_map, List.length_map, List.length_take, List.length_drop, List.length_singleton]; exact Nat.le_of_lt (big (by omega)), fun b5 hb5 => ?_⟩
    have t5 := same_upd (o := .lst ((xs.take j).map V.int ++ [V.int od] ++ (xs.drop j).map V.int)) hb5
    refine ⟨_, rfl, by show 1 ≤ sizeLine; decide, fun b6 hb6 => ?_⟩
    have t6 := same_upd (o := .lst [V.int (-7)]) hb6
    refine ⟨b5, b6, _, _, rfl, rfl, t6 _ _ upd_same, upd_same, by rw [List.length_append, List.length_append, List.length_map, List.length_map, List.length_take, List.length_drop, List.length_singleton, List.length_singleton]; exact Nat.le_of_lt (big (by omega)), fun b7 hb7 => ?_⟩
    have eW : (xs.take j).map V.int ++ [V.int od] ++ (xs.drop j).map V.int ++ [V.int (-7)] = (xs.take j ++ [od] ++ xs.drop j ++ [-7]).map V.int := by
      rw [List.map_append, List.map_append, List.map_append]
      rfl
    rw [eW]
    refine ⟨r, b7, xs.take j ++ [od] ++ xs.drop j ++ [-7], "seat", od, rfl, pr, SqL.of upd_same, ?_, .inl ⟨rfl, j, ?_, fun i y hi hy => ?_, bad⟩, fun tt GF sF htt ktt => ?_⟩
    · rw [List.length_append, List.length_append, List.length_append, List.length_take, List.length_drop, List.length_singleton, List.length_singleton]
      omega
    · rw [List.append_assoc, List.append_assoc, List.getElem?_append_right (by rw [List.length_take]; omega)]
      rw [List.length_take, Nat.min_eq_left (by omega), Nat.sub_self]
      rfl
    · rw [List.append_assoc, List.append_assoc, List.getElem?_append_left (by rw [List.length_take]; omega)] at hy
      exact al y (List.mem_of_mem_take (List.mem_of_getElem? hy))
    refine ⟨_, rfl, by show 2 ≤ sizeLine; decide, fun tu htu => ?_⟩
    refine ⟨_, _, dp_pair ((same_upd (o := .tup [V.str "seat", V.int od]) htu) _ _ ktt), dp_pair upd_same, shaped_pair (by decide +kernel) _, shaped_pair (by decide +kernel) _, ?_⟩
    rw [eqv_shaped (shaped_pair (by decide +kernel) _)]
    exact q _
end

end G0
namespace G0
open PySem PySem.Spec PyProof.Rows L2 NdefX ClX
/-! ### the whole -/
theorem xt_N {P : Program} {w : World} {K : PySem.W.Frag} {mg : Str → Option Value} {base : Heap} {C fN cc cda : Addr} {oc kV dc pm ct cl ccl : Value} {od an cld cdd : Option Addr} {osl csl ccs : Array (Option Value)} {vs : Array Value} {file : Str} {tf : Tok} {cdD : ClassData}
    (X : XcK K C "seat") (a2 : PySem.W.findIn K (.ref C) "__init__" = some (some (.ref fN))) (a3 : PySem.W.typeIn K (.ref fN) = some (.type "function"))
    (a4 : K.lookup fN = some ⟨oc, od, .func (PySem.W.ksFn "__init__" "NoSeat.__init__" (defArgs s_NoSeat__init) (defBody s_NoSeat__init) (defScope s_NoSeat__init) .none kV dc pm an (.ref cda) ct cc), osl⟩)
    (a5 : PySem.W.codeIn K (.ref cda) "NoSeat.__init__" = true) (a6 : K.lookup cc = some ⟨cl, cld, .cell (some (.ref C)), csl⟩) (a7 : K.lookup cda = some ⟨ccl, cdd, .fields vs, ccs⟩)
    (w8 : vs[2]? = some (.str file tf)) (w9 : ((P.main.file : Str) == file) = true) (w10 : PySem.W.clsIn K C = some cdD) (a11 : PySem.W.nsIn K mainGlobals "super" = some none)
    (w12 : (P.main.scope.names.lookup ("super" : Str)).isSome = false) (a13 : PySem.W.nsIn K cStatics "thirdparty.any" = some none) :
    ∃ fN fdN, PySem.W.findIn K (.ref C) "__init__" = some (some (.ref fN)) ∧ PySem.W.typeIn K (.ref fN) = some (.type "function") ∧ FnOk P w K mg base CX0 1 fN fdN ["self", "seat"] (spXI C "seat") ∧ Binds K fdN ["self", "seat"] [] := by
  have F : SupF P K ["self", "seat", "__class__"] fN cc cda C (PySem.W.ksFn "__init__" "NoSeat.__init__" (defArgs s_NoSeat__init) (defBody s_NoSeat__init) (defScope s_NoSeat__init) .none kV dc pm an (.ref cda) ct cc) (defArgs s_NoSeat__init) (defScope s_NoSeat__init) := {
    fun_ := ⟨_, _, _, a4, rfl⟩
    arg := ⟨_, rfl, rfl, by decide +kernel⟩
    code := ⟨_, _, _, _, _, _, a7, w8, w9⟩
    cell := ⟨_, _, _, a6⟩
    cls := ⟨_, w10⟩
    miss := a11
    sup := by decide +kernel
    own := by decide +kernel
    kind := rfl
    top := w12
    any_ := a13 }
  have NS : NScope ["self", "seat", "__class__"] ["self", "seat"] ["__class__"] (defScope s_NoSeat__init) := nscope_by (by decide +kernel)
  exact ⟨fN, _, a2, a3, ok_xinit (m := "this is no seat here") a4 a5 a6 NS X (by decide) (by decide) (fun env => ⟨_, rfl⟩) (fun env => rfl) (fun env => rfl) F, .all (fun us hl => match us, hl with | [_, _], _ => rfl)⟩
theorem xt_T {P : Program} {w : World} {K : PySem.W.Frag} {mg : Str → Option Value} {base : Heap} {C fN cc cda : Addr} {oc kV dc pm ct cl ccl : Value} {od an cld cdd : Option Addr} {osl csl ccs : Array (Option Value)} {vs : Array Value} {file : Str} {tf : Tok} {cdD : ClassData}
    (X : XcK K C "many") (a2 : PySem.W.findIn K (.ref C) "__init__" = some (some (.ref fN))) (a3 : PySem.W.typeIn K (.ref fN) = some (.type "function"))
    (a4 : K.lookup fN = some ⟨oc, od, .func (PySem.W.ksFn "__init__" "TooManyFallen.__init__" (defArgs s_TooManyFallen__init) (defBody s_TooManyFallen__init) (defScope s_TooManyFallen__init) .none kV dc pm an (.ref cda) ct cc), osl⟩)
    (a5 : PySem.W.codeIn K (.ref cda) "TooManyFallen.__init__" = true) (a6 : K.lookup cc = some ⟨cl, cld, .cell (some (.ref C)), csl⟩) (a7 : K.lookup cda = some ⟨ccl, cdd, .fields vs, ccs⟩)
    (w8 : vs[2]? = some (.str file tf)) (w9 : ((P.main.file : Str) == file) = true) (w10 : PySem.W.clsIn K C = some cdD) (a11 : PySem.W.nsIn K mainGlobals "super" = some none)
    (w12 : (P.main.scope.names.lookup ("super" : Str)).isSome = false) (a13 : PySem.W.nsIn K cStatics "thirdparty.any" = some none) :
    ∃ fN fdN, PySem.W.findIn K (.ref C) "__init__" = some (some (.ref fN)) ∧ PySem.W.typeIn K (.ref fN) = some (.type "function") ∧ FnOk P w K mg base CX0 1 fN fdN ["self", "many"] (spXI C "many") ∧ Binds K fdN ["self", "many"] [] := by
  have F : SupF P K ["self", "many", "__class__"] fN cc cda C (PySem.W.ksFn "__init__" "TooManyFallen.__init__" (defArgs s_TooManyFallen__init) (defBody s_TooManyFallen__init) (defScope s_TooManyFallen__init) .none kV dc pm an (.ref cda) ct cc) (defArgs s_TooManyFallen__init) (defScope s_TooManyFallen__init) := {
    fun_ := ⟨_, _, _, a4, rfl⟩
    arg := ⟨_, rfl, rfl, by decide +kernel⟩
    code := ⟨_, _, _, _, _, _, a7, w8, w9⟩
    cell := ⟨_, _, _, a6⟩
    cls := ⟨_, w10⟩
    miss := a11
    sup := by decide +kernel
    own := by decide +kernel
    kind := rfl
    top := w12
    any_ := a13 }
  have NS : NScope ["self", "many", "__class__"] ["self", "many"] ["__class__"] (defScope s_TooManyFallen__init) := nscope_by (by decide +kernel)
  exact ⟨fN, _, a2, a3, ok_xinit (m := "too many seats have fallen") a4 a5 a6 NS X (by decide) (by decide) (fun env => ⟨_, rfl⟩) (fun env => rfl) (fun env => rfl) F, .all (fun us hl => match us, hl with | [_, _], _ => rfl)⟩
theorem whole {P : Program} {w : World} {K : PySem.W.Frag} {mg : Str → Option Value} {base : Heap} {CN CT CS CO CM : Addr} (T : Bl51 mg) (NT : XT P w K mg base CN "NoSeat" "seat") (TM : XT P w K mg base CT "TooManyFallen" "many") (Ex : ExT K mg CN CT CS CO CM)
    (F_is_below : Fn K mg "is_below" s_is_below) (F_look_at_seat : Fn K mg "look_at_seat" s_look_at_seat) (F_lies : Fn K mg "lies" s_lies) (F_shared : Fn K mg "shared" s_shared) (F_free : Fn K mg "free" s_free) (F_look_at_prime : Fn K mg "_look_at_prime" s_look_at_prime) (F_u_look_at_seat : Fn K mg "_look_at_seat" s_u_look_at_seat) (F_look_at_set : Fn K mg "_look_at_set" s_look_at_set) (F_last : Fn K mg "_last" s_last) (F_is_far : Fn K mg "_is_far" s_is_far) (F_is_upright : Fn K mg "_is_upright" s_is_upright) (F_far_seat : Fn K mg "_far_seat" s_far_seat) (F_seat_over : Fn K mg "_seat_over" s_seat_over) (F_set_through : Fn K mg "_set_through" s_set_through) (F_sets_through : Fn K mg "_sets_through" s_sets_through) (F_set_of : Fn K mg "_set_of" s_set_of) (F_inverse : Fn K mg "_inverse" s_inverse) (F_law_wide : Fn K mg "_law_wide" s_law_wide) (F_law_take : Fn K mg "_law_take" s_law_take) (F_law_whole : Fn K mg "_law_whole" s_law_whole) (F_law_is_prime : Fn K mg "_law_is_prime" s_law_is_prime) (F_law_prime : Fn K mg "_law_prime" s_law_prime) (F_law_right : Fn K mg "_law_right" s_law_right) (F_law_met : Fn K mg "_law_met" s_law_met) (F_law_seat : Fn K mg "_law_seat" s_law_seat) (F_law : Fn K mg "law" s_law) : Cal P w K mg base "law" 7 ["script"] (spLaw K) := by
  have B := ok_bel (P := P) (w := w) (base := base) F_is_below T.toBlF
  have Lt := ok_last (P := P) (w := w) (base := base) F_last
  have LP := ok_lp F_look_at_prime T B
  have LS := ok_ls F_u_look_at_seat Lt (ok_look F_look_at_seat B)
  have LE := ok_lset F_look_at_set Lt B
  have Up := ok_upr F_is_upright Lt
  have FS := ok_farS F_far_seat Lt Up
  have Fr := ok_far (P := P) (w := w) (base := base) F_is_far Lt
  have Ov := ok_over (P := P) (w := w) (base := base) F_seat_over T
  have Th := ok_thr (P := P) (w := w) (base := base) F_set_through T Lt
  have Li := ok_lies F_lies LP LS LE Lt Fr FS Th
  have Sh := ok_shared F_shared T LP LE Lt Up FS Ov (ok_inv F_inverse)
  have SO := ok_setof F_set_of T Lt Up FS Ov
  have LX := ok_lsX F_u_look_at_seat Lt (ok_lookI F_look_at_seat NT B)
  have Fe := ok_free F_free T TM LP LX SO Lt Fr Th (ok_thrL F_sets_through T Lt)
  have Tk := ok_take (P := P) (w := w) (base := base) F_law_take T.toBlF (ok_wide F_law_wide)
  exact ok_law F_law T.toBlF (ok_prime F_law_prime T Tk (ok_isp F_law_is_prime T)) Tk (ok_seat F_law_seat Tk Sh) (ok_right F_law_right T (ok_wh F_law_whole T) Fe Li) (ok_met F_law_met T NT TM Ex Fe)
theorem all_mk {P : Program} {w : World} {K : PySem.W.Frag} {h : Heap} {mg : Str → Option Value} {fa : Addr}
    {f1 : Addr} {od1 an1 : Option Addr} {sl1 : Array (Option Value)} {oc1 kV1 dc1 pm1 cd1 ct1 : Value} {f2 : Addr} {od2 an2 : Option Addr} {sl2 : Array (Option Value)} {oc2 kV2 dc2 pm2 cd2 ct2 : Value} {f3 : Addr} {od3 an3 : Option Addr} {sl3 : Array (Option Value)} {oc3 kV3 dc3 pm3 cd3 ct3 : Value} {f4 : Addr} {od4 an4 : Option Addr} {sl4 : Array (Option Value)} {oc4 kV4 dc4 pm4 cd4 ct4 : Value} {f5 : Addr} {od5 an5 : Option Addr} {sl5 : Array (Option Value)} {oc5 kV5 dc5 pm5 cd5 ct5 : Value} {f6 : Addr} {od6 an6 : Option Addr} {sl6 : Array (Option Value)} {oc6 kV6 dc6 pm6 cd6 ct6 : Value} {f7 : Addr} {od7 an7 : Option Addr} {sl7 : Array (Option Value)} {oc7 kV7 dc7 pm7 cd7 ct7 : Value} {f8 : Addr} {od8 an8 : Option Addr} {sl8 : Array (Option Value)} {oc8 kV8 dc8 pm8 cd8 ct8 : Value} {f9 : Addr} {od9 an9 : Option Addr} {sl9 : Array (Option Value)} {oc9 kV9 dc9 pm9 cd9 ct9 : Value} {f10 : Addr} {od10 an10 : Option Addr} {sl10 : Array (Option Value)} {oc10 kV10 dc10 pm10 cd10 ct10 : Value} {f11 : Addr} {od11 an11 : Option Addr} {sl11 : Array (Option Value)} {oc11 kV11 dc11 pm11 cd11 ct11 : Value} {f12 : Addr} {od12 an12 : Option Addr} {sl12 : Array (Option Value)} {oc12 kV12 dc12 pm12 cd12 ct12 : Value} {f13 : Addr} {od13 an13 : Option Addr} {sl13 : Array (Option Value)} {oc13 kV13 dc13 pm13 cd13 ct13 : Value} {f14 : Addr} {od14 an14 : Option Addr} {sl14 : Array (Option Value)} {oc14 kV14 dc14 pm14 cd14 ct14 : Value} {f15 : Addr} {od15 an15 : Option Addr} {sl15 : Array (Option Value)} {oc15 kV15 dc15 pm15 cd15 ct15 : Value} {f16 : Addr} {od16 an16 : Option Addr} {sl16 : Array (Option Value)} {oc16 kV16 dc16 pm16 cd16 ct16 : Value} {f17 : Addr} {od17 an17 : Option Addr} {sl17 : Array (Option Value)} {oc17 kV17 dc17 pm17 cd17 ct17 : Value} {f18 : Addr} {od18 an18 : Option Addr} {sl18 : Array (Option Value)} {oc18 kV18 dc18 pm18 cd18 ct18 : Value} {f19 : Addr} {od19 an19 : Option Addr} {sl19 : Array (Option Value)} {oc19 kV19 dc19 pm19 cd19 ct19 : Value} {f20 : Addr} {od20 an20 : Option Addr} {sl20 : Array (Option Value)} {oc20 kV20 dc20 pm20 cd20 ct20 : Value} {f21 : Addr} {od21 an21 : Option Addr} {sl21 : Array (Option Value)} {oc21 kV21 dc21 pm21 cd21 ct21 : Value} {f22 : Addr} {od22 an22 : Option Addr} {sl22 : Array (Option Value)} {oc22 kV22 dc22 pm22 cd22 ct22 : Value} {f23 : Addr} {od23 an23 : Option Addr} {sl23 : Array (Option Value)} {oc23 kV23 dc23 pm23 cd23 ct23 : Value} {f24 : Addr} {od24 an24 : Option Addr} {sl24 : Array (Option Value)} {oc24 kV24 dc24 pm24 cd24 ct24 : Value} {f25 : Addr} {od25 an25 : Option Addr} {sl25 : Array (Option Value)} {oc25 kV25 dc25 pm25 cd25 ct25 : Value} {f26 : Addr} {od26 an26 : Option Addr} {sl26 : Array (Option Value)} {oc26 kV26 dc26 pm26 cd26 ct26 : Value} {CS CO CM : Addr} {t1 : Tok} {CN fN ccN cdaN NN : Addr} {ocN kVN dcN pmN ctN clN cclN : Value} {odN anN cldN cddN : Option Addr} {oslN cslN ccsN : Array (Option Value)} {vsN : Array Value} {fileN : Str} {tfN : Tok} {cdDN : ClassData} {nmN qN : Str} {bsN bmN subN : List Value} {snN : List Str} {abN : Bool} {colN : Option Bool} {ddN : Option Addr} {k0N k1N k2N k3N k5N : Option Value} {CT fT ccT cdaT NT : Addr} {ocT kVT dcT pmT ctT clT cclT : Value} {odT anT cldT cddT : Option Addr} {oslT cslT ccsT : Array (Option Value)} {vsT : Array Value} {fileT : Str} {tfT : Tok} {cdDT : ClassData} {nmT qT : Str} {bsT bmT subT : List Value} {snT : List Str} {abT : Bool} {colT : Option Bool} {ddT : Option Addr} {k0T k1T k2T k3T k5T : Option Value}
    (X : K.In h) (G : h.Ns mainGlobals mg) (hfa : mg "law" = some (.ref fa))
    (a1 : PySem.W.nsIn K mainGlobals "is_below" = some (some (.ref f1)))
    (l1 : K.lookup f1 = some ⟨oc1, od1, .func (PySem.W.fnOf "is_below" "is_below" (defArgs s_is_below) (defBody s_is_below) (defScope s_is_below) .none kV1 dc1 pm1 an1 cd1 ct1), sl1⟩)
    (c1 : PySem.W.codeIn K cd1 "is_below" = true)
    (k1 : PySem.W.keepIn K (.ref f1) = true)
    (a2 : PySem.W.nsIn K mainGlobals "look_at_seat" = some (some (.ref f2)))
    (l2 : K.lookup f2 = some ⟨oc2, od2, .func (PySem.W.fnOf "look_at_seat" "look_at_seat" (defArgs s_look_at_seat) (defBody s_look_at_seat) (defScope s_look_at_seat) .none kV2 dc2 pm2 an2 cd2 ct2), sl2⟩)
    (c2 : PySem.W.codeIn K cd2 "look_at_seat" = true)
    (k2 : PySem.W.keepIn K (.ref f2) = true)
    (a3 : PySem.W.nsIn K mainGlobals "lies" = some (some (.ref f3)))
    (l3 : K.lookup f3 = some ⟨oc3, od3, .func (PySem.W.fnOf "lies" "lies" (defArgs s_lies) (defBody s_lies) (defScope s_lies) .none kV3 dc3 pm3 an3 cd3 ct3), sl3⟩)
    (c3 : PySem.W.codeIn K cd3 "lies" = true)
    (k3 : PySem.W.keepIn K (.ref f3) = true)
    (a4 : PySem.W.nsIn K mainGlobals "shared" = some (some (.ref f4)))
    (l4 : K.lookup f4 = some ⟨oc4, od4, .func (PySem.W.fnOf "shared" "shared" (defArgs s_shared) (defBody s_shared) (defScope s_shared) .none kV4 dc4 pm4 an4 cd4 ct4), sl4⟩)
    (c4 : PySem.W.codeIn K cd4 "shared" = true)
    (k4 : PySem.W.keepIn K (.ref f4) = true)
    (a5 : PySem.W.nsIn K mainGlobals "free" = some (some (.ref f5)))
    (l5 : K.lookup f5 = some ⟨oc5, od5, .func (PySem.W.fnOf "free" "free" (defArgs s_free) (defBody s_free) (defScope s_free) .none kV5 dc5 pm5 an5 cd5 ct5), sl5⟩)
    (c5 : PySem.W.codeIn K cd5 "free" = true)
    (k5 : PySem.W.keepIn K (.ref f5) = true)
    (a6 : PySem.W.nsIn K mainGlobals "_look_at_prime" = some (some (.ref f6)))
    (l6 : K.lookup f6 = some ⟨oc6, od6, .func (PySem.W.fnOf "_look_at_prime" "_look_at_prime" (defArgs s_look_at_prime) (defBody s_look_at_prime) (defScope s_look_at_prime) .none kV6 dc6 pm6 an6 cd6 ct6), sl6⟩)
    (c6 : PySem.W.codeIn K cd6 "_look_at_prime" = true)
    (k6 : PySem.W.keepIn K (.ref f6) = true)
    (a7 : PySem.W.nsIn K mainGlobals "_look_at_seat" = some (some (.ref f7)))
    (l7 : K.lookup f7 = some ⟨oc7, od7, .func (PySem.W.fnOf "_look_at_seat" "_look_at_seat" (defArgs s_u_look_at_seat) (defBody s_u_look_at_seat) (defScope s_u_look_at_seat) .none kV7 dc7 pm7 an7 cd7 ct7), sl7⟩)
    (c7 : PySem.W.codeIn K cd7 "_look_at_seat" = true)
    (k7 : PySem.W.keepIn K (.ref f7) = true)
    (a8 : PySem.W.nsIn K mainGlobals "_look_at_set" = some (some (.ref f8)))
    (l8 : K.lookup f8 = some ⟨oc8, od8, .func (PySem.W.fnOf "_look_at_set" "_look_at_set" (defArgs s_look_at_set) (defBody s_look_at_set) (defScope s_look_at_set) .none kV8 dc8 pm8 an8 cd8 ct8), sl8⟩)
    (c8 : PySem.W.codeIn K cd8 "_look_at_set" = true)
    (k8 : PySem.W.keepIn K (.ref f8) = true)
    (a9 : PySem.W.nsIn K mainGlobals "_last" = some (some (.ref f9)))
    (l9 : K.lookup f9 = some ⟨oc9, od9, .func (PySem.W.fnOf "_last" "_last" (defArgs s_last) (defBody s_last) (defScope s_last) .none kV9 dc9 pm9 an9 cd9 ct9), sl9⟩)
    (c9 : PySem.W.codeIn K cd9 "_last" = true)
    (k9 : PySem.W.keepIn K (.ref f9) = true)
    (a10 : PySem.W.nsIn K mainGlobals "_is_far" = some (some (.ref f10)))
    (l10 : K.lookup f10 = some ⟨oc10, od10, .func (PySem.W.fnOf "_is_far" "_is_far" (defArgs s_is_far) (defBody s_is_far) (defScope s_is_far) .none kV10 dc10 pm10 an10 cd10 ct10), sl10⟩)
    (c10 : PySem.W.codeIn K cd10 "_is_far" = true)
    (k10 : PySem.W.keepIn K (.ref f10) = true)
    (a11 : PySem.W.nsIn K mainGlobals "_is_upright" = some (some (.ref f11)))
    (l11 : K.lookup f11 = some ⟨oc11, od11, .func (PySem.W.fnOf "_is_upright" "_is_upright" (defArgs s_is_upright) (defBody s_is_upright) (defScope s_is_upright) .none kV11 dc11 pm11 an11 cd11 ct11), sl11⟩)
    (c11 : PySem.W.codeIn K cd11 "_is_upright" = true)
    (k11 : PySem.W.keepIn K (.ref f11) = true)
    (a12 : PySem.W.nsIn K mainGlobals "_far_seat" = some (some (.ref f12)))
    (l12 : K.lookup f12 = some ⟨oc12, od12, .func (PySem.W.fnOf "_far_seat" "_far_seat" (defArgs s_far_seat) (defBody s_far_seat) (defScope s_far_seat) .none kV12 dc12 pm12 an12 cd12 ct12), sl12⟩)
    (c12 : PySem.W.codeIn K cd12 "_far_seat" = true)
    (k12 : PySem.W.keepIn K (.ref f12) = true)
    (a13 : PySem.W.nsIn K mainGlobals "_seat_over" = some (some (.ref f13)))
    (l13 : K.lookup f13 = some ⟨oc13, od13, .func (PySem.W.fnOf "_seat_over" "_seat_over" (defArgs s_seat_over) (defBody s_seat_over) (defScope s_seat_over) .none kV13 dc13 pm13 an13 cd13 ct13), sl13⟩)
    (c13 : PySem.W.codeIn K cd13 "_seat_over" = true)
    (k13 : PySem.W.keepIn K (.ref f13) = true)
    (a14 : PySem.W.nsIn K mainGlobals "_set_through" = some (some (.ref f14)))
    (l14 : K.lookup f14 = some ⟨oc14, od14, .func (PySem.W.fnOf "_set_through" "_set_through" (defArgs s_set_through) (defBody s_set_through) (defScope s_set_through) .none kV14 dc14 pm14 an14 cd14 ct14), sl14⟩)
    (c14 : PySem.W.codeIn K cd14 "_set_through" = true)
    (k14 : PySem.W.keepIn K (.ref f14) = true)
    (a15 : PySem.W.nsIn K mainGlobals "_sets_through" = some (some (.ref f15)))
    (l15 : K.lookup f15 = some ⟨oc15, od15, .func (PySem.W.fnOf "_sets_through" "_sets_through" (defArgs s_sets_through) (defBody s_sets_through) (defScope s_sets_through) .none kV15 dc15 pm15 an15 cd15 ct15), sl15⟩)
    (c15 : PySem.W.codeIn K cd15 "_sets_through" = true)
    (k15 : PySem.W.keepIn K (.ref f15) = true)
    (a16 : PySem.W.nsIn K mainGlobals "_set_of" = some (some (.ref f16)))
    (l16 : K.lookup f16 = some ⟨oc16, od16, .func (PySem.W.fnOf "_set_of" "_set_of" (defArgs s_set_of) (defBody s_set_of) (defScope s_set_of) .none kV16 dc16 pm16 an16 cd16 ct16), sl16⟩)
    (c16 : PySem.W.codeIn K cd16 "_set_of" = true)
    (k16 : PySem.W.keepIn K (.ref f16) = true)
    (a17 : PySem.W.nsIn K mainGlobals "_inverse" = some (some (.ref f17)))
    (l17 : K.lookup f17 = some ⟨oc17, od17, .func (PySem.W.fnOf "_inverse" "_inverse" (defArgs s_inverse) (defBody s_inverse) (defScope s_inverse) .none kV17 dc17 pm17 an17 cd17 ct17), sl17⟩)
    (c17 : PySem.W.codeIn K cd17 "_inverse" = true)
    (k17 : PySem.W.keepIn K (.ref f17) = true)
    (a18 : PySem.W.nsIn K mainGlobals "_law_wide" = some (some (.ref f18)))
    (l18 : K.lookup f18 = some ⟨oc18, od18, .func (PySem.W.fnOf "_law_wide" "_law_wide" (defArgs s_law_wide) (defBody s_law_wide) (defScope s_law_wide) .none kV18 dc18 pm18 an18 cd18 ct18), sl18⟩)
    (c18 : PySem.W.codeIn K cd18 "_law_wide" = true)
    (k18 : PySem.W.keepIn K (.ref f18) = true)
    (a19 : PySem.W.nsIn K mainGlobals "_law_take" = some (some (.ref f19)))
    (l19 : K.lookup f19 = some ⟨oc19, od19, .func (PySem.W.fnOf "_law_take" "_law_take" (defArgs s_law_take) (defBody s_law_take) (defScope s_law_take) .none kV19 dc19 pm19 an19 cd19 ct19), sl19⟩)
    (c19 : PySem.W.codeIn K cd19 "_law_take" = true)
    (k19 : PySem.W.keepIn K (.ref f19) = true)
    (a20 : PySem.W.nsIn K mainGlobals "_law_whole" = some (some (.ref f20)))
    (l20 : K.lookup f20 = some ⟨oc20, od20, .func (PySem.W.fnOf "_law_whole" "_law_whole" (defArgs s_law_whole) (defBody s_law_whole) (defScope s_law_whole) .none kV20 dc20 pm20 an20 cd20 ct20), sl20⟩)
    (c20 : PySem.W.codeIn K cd20 "_law_whole" = true)
    (k20 : PySem.W.keepIn K (.ref f20) = true)
    (a21 : PySem.W.nsIn K mainGlobals "_law_is_prime" = some (some (.ref f21)))
    (l21 : K.lookup f21 = some ⟨oc21, od21, .func (PySem.W.fnOf "_law_is_prime" "_law_is_prime" (defArgs s_law_is_prime) (defBody s_law_is_prime) (defScope s_law_is_prime) .none kV21 dc21 pm21 an21 cd21 ct21), sl21⟩)
    (c21 : PySem.W.codeIn K cd21 "_law_is_prime" = true)
    (k21 : PySem.W.keepIn K (.ref f21) = true)
    (a22 : PySem.W.nsIn K mainGlobals "_law_prime" = some (some (.ref f22)))
    (l22 : K.lookup f22 = some ⟨oc22, od22, .func (PySem.W.fnOf "_law_prime" "_law_prime" (defArgs s_law_prime) (defBody s_law_prime) (defScope s_law_prime) .none kV22 dc22 pm22 an22 cd22 ct22), sl22⟩)
    (c22 : PySem.W.codeIn K cd22 "_law_prime" = true)
    (k22 : PySem.W.keepIn K (.ref f22) = true)
    (a23 : PySem.W.nsIn K mainGlobals "_law_right" = some (some (.ref f23)))
    (l23 : K.lookup f23 = some ⟨oc23, od23, .func (PySem.W.fnOf "_law_right" "_law_right" (defArgs s_law_right) (defBody s_law_right) (defScope s_law_right) .none kV23 dc23 pm23 an23 cd23 ct23), sl23⟩)
    (c23 : PySem.W.codeIn K cd23 "_law_right" = true)
    (k23 : PySem.W.keepIn K (.ref f23) = true)
    (a24 : PySem.W.nsIn K mainGlobals "_law_met" = some (some (.ref f24)))
    (l24 : K.lookup f24 = some ⟨oc24, od24, .func (PySem.W.fnOf "_law_met" "_law_met" (defArgs s_law_met) (defBody s_law_met) (defScope s_law_met) .none kV24 dc24 pm24 an24 cd24 ct24), sl24⟩)
    (c24 : PySem.W.codeIn K cd24 "_law_met" = true)
    (k24 : PySem.W.keepIn K (.ref f24) = true)
    (a25 : PySem.W.nsIn K mainGlobals "_law_seat" = some (some (.ref f25)))
    (l25 : K.lookup f25 = some ⟨oc25, od25, .func (PySem.W.fnOf "_law_seat" "_law_seat" (defArgs s_law_seat) (defBody s_law_seat) (defScope s_law_seat) .none kV25 dc25 pm25 an25 cd25 ct25), sl25⟩)
    (c25 : PySem.W.codeIn K cd25 "_law_seat" = true)
    (k25 : PySem.W.keepIn K (.ref f25) = true)
    (a26 : PySem.W.nsIn K mainGlobals "law" = some (some (.ref f26)))
    (l26 : K.lookup f26 = some ⟨oc26, od26, .func (PySem.W.fnOf "law" "law" (defArgs s_law) (defBody s_law) (defScope s_law) .none kV26 dc26 pm26 an26 cd26 ct26), sl26⟩)
    (c26 : PySem.W.codeIn K cd26 "law" = true)
    (k26 : PySem.W.keepIn K (.ref f26) = true)
    (m1 : PySem.W.nsIn K mainGlobals "GREATEST" = some (some (.int 9973 t1)))
    (m2 : PySem.W.nsIn K mainGlobals "isqrt" = some (some (.builtin "math.isqrt")))
    (ii10 : PySem.W.nsIn K mainGlobals "super" = some none)
    (w11 : (P.main.scope.names.lookup ("super" : Str)).isSome = false)
    (ii12 : PySem.W.nsIn K cStatics "thirdparty.any" = some none)
    (w23 : PySem.W.specialIn K (.builtin "object.__class__") "__get__" = some (some (.builtin "getset_descriptor.__get__")))
    (w24 : PySem.W.takesIn K (.builtin "object.__class__") = some true)
    (g1 : PySem.W.nsIn K mainGlobals "SoleError" = some (some (.ref CS)))
    (g2 : PySem.W.nsIn K mainGlobals "NoSet" = some (some (.ref CO)))
    (g3 : PySem.W.nsIn K mainGlobals "TooMany" = some (some (.ref CM)))
    (n1N : PySem.W.nsIn K mainGlobals "NoSeat" = some (some (.ref CN)))
    (n4N : PySem.W.findIn K (.ref CN) "__init__" = some (some (.ref fN)))
    (n5N : PySem.W.typeIn K (.ref fN) = some (.type "function"))
    (n6N : K.lookup fN = some ⟨ocN, odN, .func (PySem.W.ksFn "__init__" "NoSeat.__init__" (defArgs s_NoSeat__init) (defBody s_NoSeat__init) (defScope s_NoSeat__init) .none kVN dcN pmN anN (.ref cdaN) ctN ccN), oslN⟩)
    (n7N : PySem.W.codeIn K (.ref cdaN) "NoSeat.__init__" = true)
    (n8N : K.lookup ccN = some ⟨clN, cldN, .cell (some (.ref CN)), cslN⟩)
    (n9N : K.lookup cdaN = some ⟨cclN, cddN, .fields vsN, ccsN⟩)
    (w30N : vsN[2]? = some (.str fileN tfN))
    (w31N : ((P.main.file : Str) == fileN) = true)
    (w32N : PySem.W.clsIn K CN = some cdDN)
    (n10N : K.lookup CN = some (excClassObj nmN qN CN NN bsN bmN true snN subN abN colN ddN k0N k1N k2N k3N k5N "ValueError.__new__"))
    (w33N : PySem.HandSPX.refsVE bmN = true)
    (n11N : PySem.W.findIn K (.ref CN) "__setattr__" = some (some (.builtin "object.__setattr__")))
    (n12N : PySem.W.subIn K (.ref CN) (.type "BaseException") = some true)
    (n13N : PySem.W.typeIn K (.ref CN) = some (.type "type"))
    (n14N : PySem.W.keepIn K (.ref CN) = true)
    (w34N : PySem.W.mroIn K CN (.ref CN) = some true)
    (w35N : PySem.W.ks_superIn K CN CN "__init__" = some (some (.builtin "ValueError.__init__")))
    (n15N : PySem.W.subIn K (.ref CN) (.type "ValueError") = some true)
    (n16N : PySem.W.findIn K (.ref CN) "seat" = some none)
    (n17N : PySem.W.findIn K (.ref CN) "__getattribute__" = some (some (.builtin "BaseException.__getattribute__")))
    (n18N : PySem.W.findIn K (.ref CN) "__getattr__" = some none)
    (n19N : PySem.W.hasDictIn K CN = true)
    (n20N : PySem.W.findIn K (.ref CN) "__class__" = some (some (.builtin "object.__class__")))
    (w36N : PySem.W.mroIn K CN (.type "object") = some true)
    (n1T : PySem.W.nsIn K mainGlobals "TooManyFallen" = some (some (.ref CT)))
    (n4T : PySem.W.findIn K (.ref CT) "__init__" = some (some (.ref fT)))
    (n5T : PySem.W.typeIn K (.ref fT) = some (.type "function"))
    (n6T : K.lookup fT = some ⟨ocT, odT, .func (PySem.W.ksFn "__init__" "TooManyFallen.__init__" (defArgs s_TooManyFallen__init) (defBody s_TooManyFallen__init) (defScope s_TooManyFallen__init) .none kVT dcT pmT anT (.ref cdaT) ctT ccT), oslT⟩)
    (n7T : PySem.W.codeIn K (.ref cdaT) "TooManyFallen.__init__" = true)
    (n8T : K.lookup ccT = some ⟨clT, cldT, .cell (some (.ref CT)), cslT⟩)
    (n9T : K.lookup cdaT = some ⟨cclT, cddT, .fields vsT, ccsT⟩)
    (w30T : vsT[2]? = some (.str fileT tfT))
    (w31T : ((P.main.file : Str) == fileT) = true)
    (w32T : PySem.W.clsIn K CT = some cdDT)
    (n10T : K.lookup CT = some (excClassObj nmT qT CT NT bsT bmT true snT subT abT colT ddT k0T k1T k2T k3T k5T "ValueError.__new__"))
    (w33T : PySem.HandSPX.refsVE bmT = true)
    (n11T : PySem.W.findIn K (.ref CT) "__setattr__" = some (some (.builtin "object.__setattr__")))
    (n12T : PySem.W.subIn K (.ref CT) (.type "BaseException") = some true)
    (n13T : PySem.W.typeIn K (.ref CT) = some (.type "type"))
    (n14T : PySem.W.keepIn K (.ref CT) = true)
    (w34T : PySem.W.mroIn K CT (.ref CT) = some true)
    (w35T : PySem.W.ks_superIn K CT CT "__init__" = some (some (.builtin "ValueError.__init__")))
    (n15T : PySem.W.subIn K (.ref CT) (.type "ValueError") = some true)
    (n16T : PySem.W.findIn K (.ref CT) "many" = some none)
    (n17T : PySem.W.findIn K (.ref CT) "__getattribute__" = some (some (.builtin "BaseException.__getattribute__")))
    (n18T : PySem.W.findIn K (.ref CT) "__getattr__" = some none)
    (n19T : PySem.W.hasDictIn K CT = true)
    (n20T : PySem.W.findIn K (.ref CT) "__class__" = some (some (.builtin "object.__class__")))
    (w36T : PySem.W.mroIn K CT (.type "object") = some true)
    (wexN : PySem.W.exmOne K (.ref CN) (.ref CS) = some true)
    (wexT : PySem.W.exmOne K (.ref CT) (.ref CS) = some true)
    (wnO : PySem.W.kitOne K (.ref CN) (.ref CO) = some false)
    (wnM : PySem.W.kitOne K (.ref CN) (.ref CM) = some false)
    (wnV : PySem.W.kitOne K (.ref CN) (.type "ValueError") = some true)
    (wnN : PySem.W.kitOne K (.ref CN) (.ref CN) = some true)
    (wnT : PySem.W.kitOne K (.ref CN) (.ref CT) = some false)
    (wtO : PySem.W.kitOne K (.ref CT) (.ref CO) = some false)
    (wtM : PySem.W.kitOne K (.ref CT) (.ref CM) = some false)
    (wtV : PySem.W.kitOne K (.ref CT) (.type "ValueError") = some true)
    (wtN : PySem.W.kitOne K (.ref CT) (.ref CN) = some false)
    (wtT : PySem.W.kitOne K (.ref CT) (.ref CT) = some true)
    (b_len : PySem.W.nsIn K mainGlobals "len" = some none)
    (b_range : PySem.W.nsIn K mainGlobals "range" = some none)
    (b_sum : PySem.W.nsIn K mainGlobals "sum" = some none)
    (b_sorted : PySem.W.nsIn K mainGlobals "sorted" = some none)
    (b_set : PySem.W.nsIn K mainGlobals "set" = some none)
    (b_tuple : PySem.W.nsIn K mainGlobals "tuple" = some none)
    (b_list : PySem.W.nsIn K mainGlobals "list" = some none)
    (b_isinstance : PySem.W.nsIn K mainGlobals "isinstance" = some none)
    (b_int : PySem.W.nsIn K mainGlobals "int" = some none)
    (b_bool : PySem.W.nsIn K mainGlobals "bool" = some none)
    (b_min : PySem.W.nsIn K mainGlobals "min" = some none)
    (b_all : PySem.W.nsIn K mainGlobals "all" = some none)
    (b_enumerate : PySem.W.nsIn K mainGlobals "enumerate" = some none)
    (b_any : PySem.W.nsIn K mainGlobals "any" = some none)
    (b_divmod : PySem.W.nsIn K mainGlobals "divmod" = some none)
    (b_ValueError : PySem.W.nsIn K mainGlobals "ValueError" = some none) :
    ∃ fd : FuncData, (∀ (s : Shared) (v : Value), BindsTo s fd ⟨[v], []⟩ [("script", v)]) ∧
      ∀ base : Heap, K.In base → base.Ns mainGlobals mg → FnG P w K mg base CX0 7 fa fd ["script"] (spLaw K) := by
  have F_is_below : Fn K mg "is_below" s_is_below := fn_top X G a1 l1 c1 k1
  have F_look_at_seat : Fn K mg "look_at_seat" s_look_at_seat := fn_top X G a2 l2 c2 k2
  have F_lies : Fn K mg "lies" s_lies := fn_top X G a3 l3 c3 k3
  have F_shared : Fn K mg "shared" s_shared := fn_top X G a4 l4 c4 k4
  have F_free : Fn K mg "free" s_free := fn_top X G a5 l5 c5 k5
  have F_look_at_prime : Fn K mg "_look_at_prime" s_look_at_prime := fn_top X G a6 l6 c6 k6
  have F_u_look_at_seat : Fn K mg "_look_at_seat" s_u_look_at_seat := fn_top X G a7 l7 c7 k7
  have F_look_at_set : Fn K mg "_look_at_set" s_look_at_set := fn_top X G a8 l8 c8 k8
  have F_last : Fn K mg "_last" s_last := fn_top X G a9 l9 c9 k9
  have F_is_far : Fn K mg "_is_far" s_is_far := fn_top X G a10 l10 c10 k10
  have F_is_upright : Fn K mg "_is_upright" s_is_upright := fn_top X G a11 l11 c11 k11
  have F_far_seat : Fn K mg "_far_seat" s_far_seat := fn_top X G a12 l12 c12 k12
  have F_seat_over : Fn K mg "_seat_over" s_seat_over := fn_top X G a13 l13 c13 k13
  have F_set_through : Fn K mg "_set_through" s_set_through := fn_top X G a14 l14 c14 k14
  have F_sets_through : Fn K mg "_sets_through" s_sets_through := fn_top X G a15 l15 c15 k15
  have F_set_of : Fn K mg "_set_of" s_set_of := fn_top X G a16 l16 c16 k16
  have F_inverse : Fn K mg "_inverse" s_inverse := fn_top X G a17 l17 c17 k17
  have F_law_wide : Fn K mg "_law_wide" s_law_wide := fn_top X G a18 l18 c18 k18
  have F_law_take : Fn K mg "_law_take" s_law_take := fn_top X G a19 l19 c19 k19
  have F_law_whole : Fn K mg "_law_whole" s_law_whole := fn_top X G a20 l20 c20 k20
  have F_law_is_prime : Fn K mg "_law_is_prime" s_law_is_prime := fn_top X G a21 l21 c21 k21
  have F_law_prime : Fn K mg "_law_prime" s_law_prime := fn_top X G a22 l22 c22 k22
  have F_law_right : Fn K mg "_law_right" s_law_right := fn_top X G a23 l23 c23 k23
  have F_law_met : Fn K mg "_law_met" s_law_met := fn_top X G a24 l24 c24 k24
  have F_law_seat : Fn K mg "_law_seat" s_law_seat := fn_top X G a25 l25 c25 k25
  have F_law : Fn K mg "law" s_law := fn_top X G a26 l26 c26 k26
  have B_len := PySem.W.mg_none_of X G b_len
  have B_range := PySem.W.mg_none_of X G b_range
  have B_sum := PySem.W.mg_none_of X G b_sum
  have B_sorted := PySem.W.mg_none_of X G b_sorted
  have B_set := PySem.W.mg_none_of X G b_set
  have B_tuple := PySem.W.mg_none_of X G b_tuple
  have B_list := PySem.W.mg_none_of X G b_list
  have B_isinstance := PySem.W.mg_none_of X G b_isinstance
  have B_int := PySem.W.mg_none_of X G b_int
  have B_bool := PySem.W.mg_none_of X G b_bool
  have B_min := PySem.W.mg_none_of X G b_min
  have B_all := PySem.W.mg_none_of X G b_all
  have B_enumerate := PySem.W.mg_none_of X G b_enumerate
  have B_any := PySem.W.mg_none_of X G b_any
  have B_divmod := PySem.W.mg_none_of X G b_divmod
  have B_ValueError := PySem.W.mg_none_of X G b_ValueError
  have XKN : XcK K CN "seat" := ⟨⟨⟨_, _, _, _, _, _, _, _, _, _, _, _, _, _, _, n10N, w33N⟩, n11N, n12N, n13N, n14N⟩, w34N, w35N, n15N, n16N⟩
  have XKT : XcK K CT "many" := ⟨⟨⟨_, _, _, _, _, _, _, _, _, _, _, _, _, _, _, n10T, w33T⟩, n11T, n12T, n13T, n14T⟩, w34T, w35T, n15T, n16T⟩
  have T : Bl51 mg := ⟨⟨B_len, B_range, B_sum, B_sorted, B_set, B_tuple, B_list, B_isinstance, B_int, B_bool, B_min, B_all, B_enumerate⟩, B_any, B_divmod, PySem.W.mg_of X G m2, ⟨t1, PySem.W.mg_of X G m1⟩⟩
  exact law_end F_law hfa (fun _ _ _ _ _ _ s v => .of_eq rfl) fun base _ _ => whole T ⟨XKN, ⟨n17N, n18N, n12N, n19N⟩, ⟨by rw [w32N]; rfl, ⟨n17N, n18N, n12N, n19N, n20N, w23, w24, w36N⟩⟩, xt_N XKN n4N n5N n6N n7N n8N n9N w30N w31N w32N ii10 w11 ii12, PySem.W.mg_of X G n1N⟩ ⟨XKT, ⟨n17T, n18T, n12T, n19T⟩, ⟨by rw [w32T]; rfl, ⟨n17T, n18T, n12T, n19T, n20T, w23, w24, w36T⟩⟩, xt_T XKT n4T n5T n6T n7T n8T n9T w30T w31T w32T ii10 w11 ii12, PySem.W.mg_of X G n1T⟩ ⟨PySem.W.mg_of X G g1, PySem.W.mg_of X G g2, PySem.W.mg_of X G g3, B_ValueError, wexN, wexT, wnO, wnM, wnV, wnN, wnT, wtO, wtM, wtV, wtN, wtT⟩
    F_is_below F_look_at_seat F_lies F_shared F_free F_look_at_prime F_u_look_at_seat F_look_at_set F_last F_is_far F_is_upright F_far_seat F_seat_over F_set_through F_sets_through F_set_of F_inverse F_law_wide F_law_take F_law_whole F_law_is_prime F_law_prime F_law_right F_law_met F_law_seat F_law
end G0
open PySem PySem.W PyProof.Rows in
set_option maxRecDepth 100000 in
set_option maxHeartbeats 0 in
set_option pp.maxSteps 20 in
theorem PySem.Challenge.cw_soleseat_k53_whole_some_set_is_free_holds : PySem.Challenge.rw_soleseat_k53_whole_some_set_is_free.Holds := by
  w_on; o_law; k_head; (case hw => w_witness2)
  k_fill
  refine G0.walk_ofG (l := PySem.Challenge.rw_soleseat_k53_whole_some_set_is_free) (n := 63) (k := 7) (x := "script") (sp := G0.spLaw) rfl (by decide) rfl ⟨rfl, by decide, by decide⟩ (fun w h Y => PySem.W.kIn_of Y) ?F (fun K H a ns hl _ hS => ⟨a, ns, rfl, hS, hl, fun _ => rfl⟩)
  case F =>
    intro w mg fa h KX G hmg
    refine' G0.all_mk KX G hmg ?a1 ?l1 ?c1 ?k1 ?a2 ?l2 ?c2 ?k2 ?a3 ?l3 ?c3 ?k3 ?a4 ?l4 ?c4 ?k4 ?a5 ?l5 ?c5 ?k5 ?a6 ?l6 ?c6 ?k6 ?a7 ?l7 ?c7 ?k7 ?a8 ?l8 ?c8 ?k8 ?a9 ?l9 ?c9 ?k9 ?a10 ?l10 ?c10 ?k10 ?a11 ?l11 ?c11 ?k11 ?a12 ?l12 ?c12 ?k12 ?a13 ?l13 ?c13 ?k13 ?a14 ?l14 ?c14 ?k14 ?a15 ?l15 ?c15 ?k15 ?a16 ?l16 ?c16 ?k16 ?a17 ?l17 ?c17 ?k17 ?a18 ?l18 ?c18 ?k18 ?a19 ?l19 ?c19 ?k19 ?a20 ?l20 ?c20 ?k20 ?a21 ?l21 ?c21 ?k21 ?a22 ?l22 ?c22 ?k22 ?a23 ?l23 ?c23 ?k23 ?a24 ?l24 ?c24 ?k24 ?a25 ?l25 ?c25 ?k25 ?a26 ?l26 ?c26 ?k26 ?m1 ?m2 ?ii10 ?w11 ?ii12 ?w23 ?w24 ?g1 ?g2 ?g3 ?n1N ?n4N ?n5N ?n6N ?n7N ?n8N ?n9N ?w30N ?w31N ?w32N ?n10N ?w33N ?n11N ?n12N ?n13N ?n14N ?w34N ?w35N ?n15N ?n16N ?n17N ?n18N ?n19N ?n20N ?w36N ?n1T ?n4T ?n5T ?n6T ?n7T ?n8T ?n9T ?w30T ?w31T ?w32T ?n10T ?w33T ?n11T ?n12T ?n13T ?n14T ?w34T ?w35T ?n15T ?n16T ?n17T ?n18T ?n19T ?n20T ?w36T ?wexN ?wexT ?wnO ?wnM ?wnV ?wnN ?wnT ?wtO ?wtM ?wtV ?wtN ?wtT ?b_len ?b_range ?b_sum ?b_sorted ?b_set ?b_tuple ?b_list ?b_isinstance ?b_int ?b_bool ?b_min ?b_all ?b_enumerate ?b_any ?b_divmod ?b_ValueError
    (case a1 => k_is)
    (case l1 => k_is)
    (case c1 => k_is)
    (case k1 => k_is)
    (case a2 => k_is)
    (case l2 => k_is)
    (case c2 => k_is)
    (case k2 => k_is)
    (case a3 => k_is)
    (case l3 => k_is)
    (case c3 => k_is)
    (case k3 => k_is)
    (case a4 => k_is)
    (case l4 => k_is)
    (case c4 => k_is)
    (case k4 => k_is)
    (case a5 => k_is)
    (case l5 => k_is)
    (case c5 => k_is)
    (case k5 => k_is)
    (case a6 => k_is)
    (case l6 => k_is)
    (case c6 => k_is)
    (case k6 => k_is)
    (case a7 => k_is)
    (case l7 => k_is)
    (case c7 => k_is)
    (case k7 => k_is)
    (case a8 => k_is)
    (case l8 => k_is)
    (case c8 => k_is)
    (case k8 => k_is)
    (case a9 => k_is)
    (case l9 => k_is)
    (case c9 => k_is)
    (case k9 => k_is)
    (case a10 => k_is)
    (case l10 => k_is)
    (case c10 => k_is)
    (case k10 => k_is)
    (case a11 => k_is)
    (case l11 => k_is)
    (case c11 => k_is)
    (case k11 => k_is)
    (case a12 => k_is)
    (case l12 => k_is)
    (case c12 => k_is)
    (case k12 => k_is)
    (case a13 => k_is)
    (case l13 => k_is)
    (case c13 => k_is)
    (case k13 => k_is)
    (case a14 => k_is)
    (case l14 => k_is)
    (case c14 => k_is)
    (case k14 => k_is)
    (case a15 => k_is)
    (case l15 => k_is)
    (case c15 => k_is)
    (case k15 => k_is)
    (case a16 => k_is)
    (case l16 => k_is)
    (case c16 => k_is)
    (case k16 => k_is)
    (case a17 => k_is)
    (case l17 => k_is)
    (case c17 => k_is)
    (case k17 => k_is)
    (case a18 => k_is)
    (case l18 => k_is)
    (case c18 => k_is)
    (case k18 => k_is)
    (case a19 => k_is)
    (case l19 => k_is)
    (case c19 => k_is)
    (case k19 => k_is)
    (case a20 => k_is)
    (case l20 => k_is)
    (case c20 => k_is)
    (case k20 => k_is)
    (case a21 => k_is)
    (case l21 => k_is)
    (case c21 => k_is)
    (case k21 => k_is)
    (case a22 => k_is)
    (case l22 => k_is)
    (case c22 => k_is)
    (case k22 => k_is)
    (case a23 => k_is)
    (case l23 => k_is)
    (case c23 => k_is)
    (case k23 => k_is)
    (case a24 => k_is)
    (case l24 => k_is)
    (case c24 => k_is)
    (case k24 => k_is)
    (case a25 => k_is)
    (case l25 => k_is)
    (case c25 => k_is)
    (case k25 => k_is)
    (case a26 => k_is)
    (case l26 => k_is)
    (case c26 => k_is)
    (case k26 => k_is)
    (case m1 => k_is)
    (case m2 => k_is)
    (case ii10 => k_is)
    (case w11 => first | k_is | exact rfl | decide +kernel)
    (case ii12 => k_is)
    (case w23 => first | k_is | exact rfl | decide +kernel)
    (case w24 => first | k_is | exact rfl | decide +kernel)
    (case g1 => k_is)
    (case g2 => k_is)
    (case g3 => k_is)
    (case n1N => k_is)
    (case n4N => k_is)
    (case n5N => k_is)
    (case n6N => k_is)
    (case n7N => k_is)
    (case n8N => k_is)
    (case n9N => k_is)
    (case w30N => first | k_is | exact rfl | decide +kernel)
    (case w31N => first | k_is | exact rfl | decide +kernel)
    (case w32N => first | k_is | exact rfl | decide +kernel)
    (case n10N => k_is)
    (case w33N => first | k_is | exact rfl | decide +kernel)
    (case n11N => k_is)
    (case n12N => k_is)
    (case n13N => k_is)
    (case n14N => k_is)
    (case w34N => first | k_is | exact rfl | decide +kernel)
    (case w35N => first | k_is | exact rfl | decide +kernel)
    (case n15N => k_is)
    (case n16N => k_is)
    (case n17N => k_is)
    (case n18N => k_is)
    (case n19N => k_is)
    (case n20N => k_is)
    (case w36N => first | k_is | exact rfl | decide +kernel)
    (case n1T => k_is)
    (case n4T => k_is)
    (case n5T => k_is)
    (case n6T => k_is)
    (case n7T => k_is)
    (case n8T => k_is)
    (case n9T => k_is)
    (case w30T => first | k_is | exact rfl | decide +kernel)
    (case w31T => first | k_is | exact rfl | decide +kernel)
    (case w32T => first | k_is | exact rfl | decide +kernel)
    (case n10T => k_is)
    (case w33T => first | k_is | exact rfl | decide +kernel)
    (case n11T => k_is)
    (case n12T => k_is)
    (case n13T => k_is)
    (case n14T => k_is)
    (case w34T => first | k_is | exact rfl | decide +kernel)
    (case w35T => first | k_is | exact rfl | decide +kernel)
    (case n15T => k_is)
    (case n16T => k_is)
    (case n17T => k_is)
    (case n18T => k_is)
    (case n19T => k_is)
    (case n20T => k_is)
    (case w36T => first | k_is | exact rfl | decide +kernel)
    (case wexN => first | k_is | exact rfl | decide +kernel)
    (case wexT => first | k_is | exact rfl | decide +kernel)
    (case wnO => first | k_is | exact rfl | decide +kernel)
    (case wnM => first | k_is | exact rfl | decide +kernel)
    (case wnV => first | k_is | exact rfl | decide +kernel)
    (case wnN => first | k_is | exact rfl | decide +kernel)
    (case wnT => first | k_is | exact rfl | decide +kernel)
    (case wtO => first | k_is | exact rfl | decide +kernel)
    (case wtM => first | k_is | exact rfl | decide +kernel)
    (case wtV => first | k_is | exact rfl | decide +kernel)
    (case wtN => first | k_is | exact rfl | decide +kernel)
    (case wtT => first | k_is | exact rfl | decide +kernel)
    (case b_len => k_is)
    (case b_range => k_is)
    (case b_sum => k_is)
    (case b_sorted => k_is)
    (case b_set => k_is)
    (case b_tuple => k_is)
    (case b_list => k_is)
    (case b_isinstance => k_is)
    (case b_int => k_is)
    (case b_bool => k_is)
    (case b_min => k_is)
    (case b_all => k_is)
    (case b_enumerate => k_is)
    (case b_any => k_is)
    (case b_divmod => k_is)
    (case b_ValueError => k_is)
#print axioms PySem.Challenge.cw_soleseat_k53_whole_some_set_is_free_holds
namespace G0

end G0
