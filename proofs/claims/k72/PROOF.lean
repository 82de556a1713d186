import PyProof.Rows.All
import Wide.All
import OpenK.AllK
import Wide.FinOn
import HandS.ForMost
import HandS.Wide
import HandS.Conv
import HandS.TupAny
import HandS.Deep
import HandS.Steps
import HandS.NoneIn
import HandS.IsInst
import HandS.More
import HandS.Defaults
import HandS.Small
import HandS.TupLe
import HandS.TupSets
import HandS.EndBits
import HandS.Nested
import HandS.ExcInit
import HandS.ExcSuper
import HandS.ClsMeth
import KE.KSuper
import KE.KExcSuper
import HandS.IsInst
import HandS.MakeKwOnly
import HandS.DictComp
import HandS.SortInts
import HandS.Conv
import HandS.More
import HandS.Wide
import HandS.Deep
import HandS.Style
import HandS.WideBits
import HandS.Dict
import PySem.Challenge.RW_soleseat_k72_handed_on
set_option Elab.async false
set_option maxRecDepth 100000
set_option maxHeartbeats 1000000
set_option linter.all false
/-! Calls where nothing is under repr around: the layer's defs, with one premise more (no guard around). -/
namespace G0
open PySem PySem.Spec PyProof.Rows L2
structure FnG (P : Program) (w : World) (K : PySem.W.Frag) (mg : Str → Option Value) (base : Heap) (CX : CXT)
    (k : Nat) (f : Addr) (fd : FuncData) (ps : List Str) (sp : Sp) : Prop where
  args : ∀ zs G R W, sp zs G R W → zs.length = ps.length
  runs : ∀ (B : Around) (around : List Env) (t : Shared) (G : Hp) (given : Args) (bound : List Value) (zs : List V) (R : VK) (W : XK),
    B.guards = some [] → Room k B → Env0 P w K mg base B around t G →
    BindsTo t fd given (ps.zip bound) → Vals zs bound → sp zs G R W →
    codeAny (model P w) B (.call (.ref f) given) (CR CX around P w G t R W) t
theorem FnG.of {P : Program} {w : World} {K : PySem.W.Frag} {mg : Str → Option Value} {base : Heap} {CX : CXT}
    {k : Nat} {f : Addr} {fd : FuncData} {ps : List Str} {sp : Sp} (F : FnOk P w K mg base CX k f fd ps sp) :
    FnG P w K mg base CX k f fd ps sp :=
  ⟨F.len, fun B around t G given bound zs R W _ hr => F.run B around t G given bound zs R W hr⟩
theorem FnG.mono {P : Program} {w : World} {K : PySem.W.Frag} {mg : Str → Option Value} {base : Heap} {CX : CXT}
    {j k : Nat} {f : Addr} {fd : FuncData} {ps : List Str} {sp : Sp} (F : FnG P w K mg base CX j f fd ps sp) (h : j ≤ k) :
    FnG P w K mg base CX k f fd ps sp :=
  ⟨F.args, fun B around t G given bound zs R W hg hr => F.runs B around t G given bound zs R W hg (hr.mono h)⟩
section
variable {X : Cx} {CX : CXT} {k : Nat} {f : Addr} {fd : FuncData} {ps : List Str} {sp : Sp}
  {dvs : List V} {ds : List Value} {E : XK} {x : Str} {p pos : Pos} {e : Expr} {es : List Expr} {t : TA}
theorem goes {pins : List (Addr × Obj)} {σ : L2.St} {H : Hp} {s : Shared} {Q : VK} {us : List Value} {vs : List V}
    (F : FnG X.prog X.w X.K X.mg X.base CX k f fd ps sp) (free : X.A.guards = some []) (hr : Room k X.A)
    (hb : Binds X.K fd ps ds) (hd : Vals dvs ds) (hx : Passes CX X E)
    (I : Inv X pins σ H s) (r : Vals vs us) (h : sp (vs ++ dvs) H Q E) :
    wpAny (model X.prog X.w) X.A (call (.ref f) us) (EP X pins σ Q) X.xe s := by
  have both : Vals (vs ++ dvs) (us ++ ds) := r.append hd
  have many : (us ++ ds).length = ps.length := both.length.symm.trans (F.args _ _ _ _ h)
  have it := F.runs X.A X.stack s H ⟨us, []⟩ (us ++ ds) (vs ++ dvs) Q E free hr I.env0 (hb s us I.kIn many) both h
  refine wpAny_call (codeAny_mono it fun out s' told => ?_)
  match out, told with
  | .error e, told => exact hx pins σ H s e s' I told
  | .ok (.ret u), told => exact I.after told
  | .ok .next, told => exact told.elim
  | .ok .brk, told => exact told.elim
  | .ok .cont, told => exact told.elim
theorem pe_callG (F : FnG X.prog X.w X.K X.mg X.base CX k f fd ps sp) (free : X.A.guards = some []) (hr : Room k X.A)
    (hg : Gl X x) (hm : X.mg x = some (.ref f)) (hk : PySem.W.keepIn X.K (.ref f) = true)
    (hb : Binds X.K fd ps ds) (hd : Vals dvs ds) (hx : Passes CX X E) (ha : PA X (e :: es) t)
    (n1 : (x == ("__debug__" : Str)) = false := by decide)
    (n2 : starEach (e :: es) X.env = (false, eval e X.env) :: starEach es X.env := by rfl)
    (n3 : (backTo pos (starEach es X.env)).any (·.1) = false := by rfl) :
    PE X (.Call (.Name x p) (e :: es) [] pos) (tCall sp dvs E t) :=
  ⟨fun pins s σ H Q I h => wpAny_Call_Name_kw (ld_glob I hg hm
    (PySem.W.callWith_K (h₀ := X.base) I.ok.mod.kin hk
      (thn (ha.run pos pins s σ H _ I h) fun us s1 ⟨vs, H1, I1, r, q⟩ =>
        ⟨I1.kIn, goes F free hr hb hd hx I1 r q⟩) n2 n3) n1)⟩
end
/-- a def's body, where nothing is under repr -/
theorem fnG_of {CX : CXT} {P : Program} {w : World} {K : PySem.W.Frag} {mg : Str → Option Value} {base : Heap} {k : Nat}
    {f : Addr} {name qual : Str} {params : Arguments} {body : List Stmt} {scope : Scope} {dV kV doc pm cdv ct oc : Value}
    {an od : Option Addr} {osl : Array (Option Value)} {N ps : List Str} {sp : Sp}
    (lk : K.lookup f = some ⟨oc, od, .func (PySem.W.fnOf name qual params body scope dV kV doc pm an cdv ct), osl⟩)
    (coded : PySem.W.codeIn K cdv qual = true) (S : FnScope N ps scope)
    (len : ∀ zs G R W, sp zs G R W → zs.length = ps.length)
    (inner : ∀ (B : Around) (around : List Env) (t : Shared) (G : Hp) (zs : List V) (R : VK) (W : XK), B.guards = some [] →
      Room k (B.deeper (envOfC qual scope t.heap.objs.size f cdv)) → sp zs G R W →
      ∃ tb, PSs (cxOf CX P w K mg base N qual scope f cdv B around t G W) body tb ∧
        tb { nx := fun _ G' => R .non G', rt := R } (start N zs) G) :
    FnG P w K mg base CX (k + 1) f (PySem.W.fnOf name qual params body scope dV kV doc pm an cdv ct) ps sp := by
  refine ⟨len, fun B around t G given bound zs R W free room e0 bd rel asked => ?_⟩
  have many := len _ _ _ _ asked
  have KX : K.In t.heap := e0.mod.kin.keeps fun b o z => (e0.bs b o z).1
  have lim : t.heap.NoLimit := e0.mod.nolimit.keeps fun b o z => (e0.bs b o z).1
  have kinds : ∀ y ∈ ps.zip bound, scope.names.lookup y.1 = some .local ∨
      (scope.names.lookup y.1 = some .cell ∧ ((cellsFrom (t.heap.objs.size + 1) scope.names []).lookup y.1).isSome = true) := by
    intro y hy
    cases S.par y.1 (List.of_mem_zip hy).1 with
    | inl q => exact .inl q
    | inr q => exact .inr ⟨q, PySem.W.cellsFrom_some _ _ _ (.inl q)⟩
  refine codeAny_call_function room.depth (KX _ _ lk) rfl S.co S.gen rfl (PySem.W.codeRec_of KX coded) (bd _ _ _ _ ?_)
  refine wpAny_newFunctionEnv_cells S.kind kinds fun env same t1 made => ?_
  subst same
  refine ⟨lim.keeps made.toInCall.keep, codeAny_func ?_⟩
  obtain ⟨tb, derived, holds⟩ := inner B around t G zs R W free (room.deeper _) asked
  have J : Inv (cxOf CX P w K mg base N qual scope f cdv B around t G W) [] (start N zs) G t1 :=
    inv_start S room.hd e0 many rel made
  refine wpAny_mono (derived.run [] t1 (start N zs) G _ J holds) (fun fl t' told => ?_) fun e t' told => told
  match fl, told with
  | .ret u, ⟨v, σ', G', J', rv, q⟩ => exact ⟨v, G', J'.os, J'.bare, J'.base, J'.hok, rv, q⟩
  | .next, ⟨σ', G', J', q⟩ => exact ⟨V.non, G', J'.os, J'.bare, J'.base, J'.hok, (rfl : Value.none = Value.none), q⟩
  | .brk, ⟨_, _, _, q⟩ => exact q.elim
  | .cont, ⟨_, _, _, q⟩ => exact q.elim
theorem okG {P : Program} {w : World} {K : PySem.W.Frag} {mg : Str → Option Value} {base : Heap} {x qual : Str} {st : Stmt}
    {f : Addr} {fd : FuncData} {N ps : List Str} {k : Nat} {sp : Sp} (F : Fun K x qual st f fd) (S : FnScope N ps (defScope st))
    (len : ∀ zs G R W, sp zs G R W → zs.length = ps.length)
    (inner : ∀ (cdv : Value) (B : Around) (around : List Env) (t : Shared) (G : Hp) (zs : List V) (R : VK) (W : XK), B.guards = some [] →
      Room k (B.deeper (envOfC qual (defScope st) t.heap.objs.size f cdv)) → sp zs G R W →
      ∃ tb, PSs (cxOf CX0 P w K mg base N qual (defScope st) f cdv B around t G W).nox (defBody st) tb ∧
        tb { nx := fun _ G' => R .non G', rt := R } (start N zs) G) :
    FnG P w K mg base CX0 (k + 1) f fd ps sp := by
  obtain ⟨oc, od, kV, doc, pm, an, cdv, ct, osl, rfl, lk, coded⟩ := F.ex
  refine fnG_of lk coded S len fun B around t G zs R W free room asked => ?_
  obtain ⟨tb, derived, holds⟩ := inner cdv B around t G zs R W free room asked
  exact ⟨tb, derived.nox, holds⟩
/-- the law's own call -/
theorem law_callG {P : Program} {w : World} {K : PySem.W.Frag} {mg mb : Str → Option Value} {CX : CXT} {k : Nat} {fa a : Addr}
    {fd : FuncData} {x : Str} {sp : Sp} {s₁ : Shared} {vs : List Value} {ns : List Int}
    (KX : K.In s₁.heap) (gl : s₁.heap.Ns mainGlobals mg) (bl : s₁.heap.Ns builtinsNs mb)
    (boot : ∀ x : Str, x ≠ "__name__" → mb x = bootBuiltins x) (lim : s₁.heap.NoLimit) (nogens : s₁.gens = #[])
    (at_ : s₁.heap.get? a = some { cls := .type "list", data := .seq vs.toArray }) (nums : IntsAre vs ns) (short : ns.length ≤ sizeLine)
    (room : Room k callerA)
    (F : ∀ base : Heap, K.In base → base.Ns mainGlobals mg → FnG P w K mg base CX k fa fd [x] sp)
    (bound : ∀ (s : Shared) (u : Value), BindsTo s fd ⟨[u], []⟩ [(x, u)])
    (asked : ∀ H : Hp, Only H → SqL K H a (ns.map V.int) → sp [.ref a] H (fun v _ => v = .bl true) fun _ _ _ => False)
    (never : ∀ H e s', CX [] H s₁ (fun _ _ _ => False) e s' → False) :
    codeAny (model P w) callerA (.call (.ref fa) ⟨[.ref a], []⟩)
      (fun r s' => r = .ok (.ret (.bool true)) ∧ OldK s₁.heap s'.heap ∧ s'.os = s₁.os ∧ AllBare s'.gens) s₁ := by
  have rel := vals_ints nums
  have many := nums.length
  have from_ : ∀ H : Hp, Only H → SqL K H a (ns.map V.int) → HOk P w H s₁.heap → (∀ b, H b ≠ none → b = a) →
      (H a ≠ none → K.lookup a = none) → codeAny (model P w) callerA (.call (.ref fa) ⟨[.ref a], []⟩)
        (fun r s' => r = .ok (.ret (.bool true)) ∧ OldK s₁.heap s'.heap ∧ s'.os = s₁.os ∧ AllBare s'.gens) s₁ := by
    intro H only seq fine one away
    have down : ∀ {b : Addr} {o : Obj}, s₁.heap.get? b = some o → H b = none →
      (hidT s₁.heap H).get? b = some o := fun e n => hidT_get e n
    have untracked : ∀ {b : Addr} {o : Obj}, s₁.heap.get? b = some o → (b = a → False) → H b = none := by
      intro b o _ n
      by_cases q : H b = none
      · exact q
      · exact (n (one b q)).elim
    have nodict : ∀ {b : Addr} {o : Obj} {es : Array DictEntry} {ep : Nat},
        s₁.heap.get? b = some o → o.data = .dict es ep → H b = none := by
      intro b o es ep e d
      refine untracked e fun q => ?_
      rw [q, at_] at e
      have e' := Option.some.inj e
      rw [← e'] at d
      have d' : Data.seq vs.toArray _ = Data.dict es ep := d
      exact absurd d' (fun h => by cases h)
    have spaces : ∀ {b : Addr} {m : Str → Option Value}, s₁.heap.Ns b m → (hidT s₁.heap H).Ns b m := by
      intro b m ns
      obtain ⟨o, es, ep, e, d, r⟩ := ns
      exact ⟨o, es, ep, down e (nodict e d), d, r⟩
    have written : K.In (hidT s₁.heap H) := by
      intro b o e
      refine down (KX b o e) ?_
      by_cases q : H b = none
      · exact q
      · have same := one b q
        rw [same] at q e
        rw [away q] at e
        cases e
    have md : Mod K mg (hidT s₁.heap H) := by
      obtain ⟨mc, h1, h2⟩ := lim
      exact ⟨written, spaces gl, ⟨mb, spaces bl, boot⟩, ⟨mc, spaces h1, h2⟩⟩
    have e0 : Env0 P w K mg (hidT s₁.heap H) callerA [] s₁ H :=
      ⟨rfl, md, fun b o e => of_hidT e, Nat.le_of_eq (hidT_size _ _), trivial,
        fun b hb => (List.not_mem_nil (show b ∈ ([] : List Addr) from hb)).elim, fine, .of_eq nogens⟩
    have it := (F _ written (spaces gl)).runs callerA [] s₁ H ⟨[.ref a], []⟩ [.ref a] [.ref a] _ _ rfl room e0
      (bound s₁ (.ref a)) (.cons rfl .nil) (asked H only seq)
    refine codeAny_mono it fun out s' told => ?_
    match out, told with
    | .error e, told => exact (never H e s' told).elim
    | .ok .next, told => exact told.elim
    | .ok .brk, told => exact told.elim
    | .ok .cont, told => exact told.elim
    | .ok (.ret u), ⟨v, H', os, bare, un, fine', r', q⟩ =>
      have q' : v = .bl true := q
      subst q'
      have u' : u = Value.bool true := r'
      subst u'
      refine ⟨rfl, OldK.of_keep fun b o e => ?_, os, bare⟩
      cases q : H b with
      | none => exact un.keep b o e q (fun z => (List.not_mem_nil (show b ∈ ([] : List Addr) from z)).elim) (List.not_mem_nil)
      | some u =>
        rcases only b with z | ⟨ob, xs, z⟩
        · have z1 := q.symm.trans z
          cases z1
        · have z' := un.frzs b ob _ z
          have e1 := (fine b _ z).1
          have e2 := (fine' b _ z').1
          exact e2.trans (e1.symm.trans e)
  cases known : K.lookup a with
  | some o =>
    have e := (KX a o known).symm.trans at_
    have e' := Option.some.inj e
    subst e'
    refine from_ (fun _ => none) (fun _ => .inl rfl) (.inr ⟨_, vs.toArray, _, known, rfl, rfl, rfl, ?_, ?_⟩)
      (fun b u z => by have z1 : (none : Option HO) = some u := z; cases z1) (fun b z => (z rfl).elim) fun z => (z rfl).elim
    · rw [List.size_toArray, many]; exact short
    · simpa using rel
  | none =>
    have self : (fun b => if b = a then some (HO.frz { cls := .type "list", data := .seq vs.toArray } (.lst (ns.map V.int))) else none) a
        = some (HO.frz { cls := .type "list", data := .seq vs.toArray } (.lst (ns.map V.int))) := if_pos rfl
    refine from_ (fun b => if b = a then some (HO.frz { cls := .type "list", data := .seq vs.toArray } (.lst (ns.map V.int))) else none)
      (fun b => ?_) (.inl (.inr ⟨_, self⟩)) (fun b u z => ?_) (fun b z => ?_) fun _ => known
    · by_cases same : b = a
      · exact .inr ⟨_, _, if_pos same⟩
      · exact .inl (if_neg same)
    · by_cases same : b = a
      · subst same
        have z' := Option.some.inj ((if_pos rfl).symm.trans z)
        subst z'
        exact ⟨at_, by rw [List.length_map]; exact short, vs, _, rel, at_⟩
      · have z1 := (if_neg same).symm.trans z
        cases z1
    · by_cases same : b = a
      · exact same
      · exact (z (if_neg same)).elim
theorem walk_ofG {l : PySem.W.OpenLaw} {n k : Nat} {q : Program} {loose : List Str} {XP : (Str → Option Value) → Heap → Prop}
    {YP : World → Heap → Prop} {d : DefRec} {K : Params → PySem.W.Frag} {sp : PySem.W.Frag → Sp} {x : Str}
    (hn : l.most = some n) (hn2 : n ≤ sizeLine) (hdf : d.params.defaults = []) (room : Room k callerA)
    (hY : ∀ (w : World) (h : Heap), YP w h → (K w.params).In h)
    (F : ∀ (w : World) (mg : Str → Option Value) (fa : Addr) (h : Heap), (K w.params).In h → h.Ns mainGlobals mg →
      mg d.name = some (.ref fa) → ∃ fd : FuncData, (∀ (s : Shared) (u : Value), BindsTo s fd ⟨[u], []⟩ [(x, u)]) ∧
        ∀ base : Heap, (K w.params).In base → base.Ns mainGlobals mg →
          FnG l.prog w (K w.params) mg base CX0 k fa fd [x] (sp (K w.params)))
    (asked : ∀ (K : PySem.W.Frag) (H : Hp) (a : Addr) (ns : List Int), ns.length ≤ n → Only H → SqL K H a (ns.map V.int) →
      sp K [.ref a] H (fun v _ => v = .bl true) fun _ _ _ => False) :
    PySem.W.WalkO q loose XP YP l.row.toRowW d [] (fun f vs => PySem.call f vs) := by
  refine Att.attach_call hn hdf fun w s₀ s₁ mg mb fa o pm cd doc a vs ns G Y ho hd hcd named obj nums few nogens => ?_
  have KX := hY w _ Y
  obtain ⟨fd, bound, all⟩ := F w mg fa _ KX G.T.g named
  exact law_callG KX G.T.g G.T.b G.T.builtins G.T.nolimit nogens obj nums (Nat.le_trans few hn2) room all bound
    (fun H only seq => asked _ H a ns few only seq) fun H e s' z => z
end G0
namespace G0
open PySem PySem.Spec PyProof.Rows L2
/-! ### a def of the module's top, by its name (no word of guards: for laws without repr) -/
def Fn (K : PySem.W.Frag) (mg : Str → Option Value) (x : Str) (st : Stmt) : Prop :=
  ∃ f fd, Fun K x x st f fd ∧ mg x = some (.ref f)
def Cal (P : Program) (w : World) (K : PySem.W.Frag) (mg : Str → Option Value) (base : Heap) (x : Str) (k : Nat) (ps : List Str) (sp : Sp) : Prop :=
  ∃ f fd, FnOk P w K mg base CX0 k f fd ps sp ∧ Binds K fd ps [] ∧ mg x = some (.ref f) ∧ PySem.W.keepIn K (.ref f) = true ∧
    ∃ oc od osl, K.lookup f = some ⟨oc, od, .func fd, osl⟩
theorem fn_top {K : PySem.W.Frag} {h : Heap} {mg : Str → Option Value} {x : Str} {st : Stmt} {f : Addr} {oc : Value} {od an : Option Addr}
    {osl : Array (Option Value)} {kV doc pm cdv ct : Value} (X : K.In h) (G : h.Ns mainGlobals mg)
    (a : PySem.W.nsIn K mainGlobals x = some (some (.ref f)))
    (l : K.lookup f = some ⟨oc, od, .func (PySem.W.fnOf x x (defArgs st) (defBody st) (defScope st) .none kV doc pm an cdv ct), osl⟩)
    (c : PySem.W.codeIn K cdv x = true) (k : PySem.W.keepIn K (.ref f) = true) : Fn K mg x st :=
  ⟨f, _, fun_mk l c k, PySem.W.mg_of X G a⟩
/-- a method of the class at C -/
def Fm (K : PySem.W.Frag) (C : Addr) (x qual : Str) (st : Stmt) : Prop := ∃ f fd, Fun K x qual st f fd ∧ Meth K C x f
theorem fm_top {K : PySem.W.Frag} {C : Addr} {x qual : Str} {st : Stmt} {f : Addr} {oc : Value} {od an : Option Addr}
    {osl : Array (Option Value)} {kV doc pm cdv ct : Value}
    (a : PySem.W.findIn K (.ref C) x = some (some (.ref f))) (i : PySem.W.isFn K (.ref f) = true)
    (l : K.lookup f = some ⟨oc, od, .func (PySem.W.fnOf x qual (defArgs st) (defBody st) (defScope st) .none kV doc pm an cdv ct), osl⟩)
    (c : PySem.W.codeIn K cdv qual = true) (k : PySem.W.keepIn K (.ref f) = true) : Fm K C x qual st :=
  ⟨f, _, fun_mk l c k, ⟨a, i, k⟩⟩
section
variable {P : Program} {w : World} {K : PySem.W.Frag} {mg : Str → Option Value} {base : Heap}
theorem cal_of {x : Str} {st : Stmt} {N ps : List Str} {k : Nat} {sp : Sp} (F : Fn K mg x st) (S : FnScope N ps (defScope st))
    (bd : ∀ (kV doc pm : Value) (an : Option Addr) (cdv ct : Value) (us : List Value), us.length = ps.length →
      bindArgs (PySem.W.fnOf x x (defArgs st) (defBody st) (defScope st) .none kV doc pm an cdv ct) ⟨us, []⟩ = pure (ps.zip us))
    (len : ∀ zs G R W, sp zs G R W → zs.length = ps.length)
    (inner : ∀ (f : Addr) (cdv : Value) (B : Around) (around : List Env) (t : Shared) (G : Hp) (zs : List V) (R : VK) (W : XK), True →
      Room k (B.deeper (envOfC x (defScope st) t.heap.objs.size f cdv)) → sp zs G R W →
      ∃ tb, PSs (cxOf CX0 P w K mg base N x (defScope st) f cdv B around t G W).nox (defBody st) tb ∧
        tb { nx := fun _ G' => R .non G', rt := R } (start N zs) G) :
    Cal P w K mg base x (k + 1) ps sp := by
  obtain ⟨f, fd, F, m⟩ := F
  obtain ⟨oc, od, kV, doc, pm, an, cdv, ct, osl, e, lk, c⟩ := id F.ex
  exact ⟨f, fd, F.ok S len (fun cdv B around t G zs R W room h => inner f cdv B around t G zs R W True.intro room h), F.binds bd, m, F.kp, oc, od, osl, lk⟩
theorem Cal.mono {x : Str} {j k : Nat} {ps : List Str} {sp : Sp} (C : Cal P w K mg base x j ps sp) (h : j ≤ k) : Cal P w K mg base x k ps sp := by
  obtain ⟨f, fd, F, r⟩ := C
  exact ⟨f, fd, F.mono h, r⟩
/-- the law itself, at the end -/
theorem law_end {st : Stmt} {k : Nat} {sp : Sp} {fa : Addr} (F : Fn K mg "law" st) (hm : mg "law" = some (.ref fa))
    (bt : ∀ (kV doc pm : Value) (an : Option Addr) (cdv ct : Value) (s : Shared) (v : Value),
      BindsTo s (PySem.W.fnOf "law" "law" (defArgs st) (defBody st) (defScope st) .none kV doc pm an cdv ct) ⟨[v], []⟩ [("script", v)])
    (C : ∀ base : Heap, K.In base → base.Ns mainGlobals mg → Cal P w K mg base "law" k ["script"] sp) :
    ∃ fd : FuncData, (∀ (s : Shared) (v : Value), BindsTo s fd ⟨[v], []⟩ [("script", v)]) ∧
      ∀ base : Heap, K.In base → base.Ns mainGlobals mg → FnG P w K mg base CX0 k fa fd ["script"] sp := by
  obtain ⟨f, fd, F, m⟩ := F
  obtain ⟨oc, od, kV, doc, pm, an, cdv, ct, osl, e, lk, c⟩ := id F.ex
  have ef := m.symm.trans hm
  cases ef
  refine ⟨fd, fun s v => by rw [e]; exact bt _ _ _ _ _ _ s v, fun base kin ns => ?_⟩
  obtain ⟨f', fd', G, _, m', _, oc', od', osl', lk'⟩ := C base kin ns
  have ef := m.symm.trans m'
  cases ef
  have ed := lk.symm.trans lk'
  cases ed
  exact FnG.of G
end
section
variable {X : Cx} {k : Nat} {ps : List Str} {sp : Sp} {x : Str} {p pos : Pos} {e : Expr} {es : List Expr} {t : TA}
theorem pe_cal (C : Cal X.prog X.w X.K X.mg X.base x k ps sp) (free : True) (hr : Room k X.A)
    (ha : PA X (e :: es) t) (hg : Gl X x := by rfl) (n1 : (x == ("__debug__" : Str)) = false := by decide)
    (n2 : starEach (e :: es) X.env = (false, eval e X.env) :: starEach es X.env := by rfl)
    (n3 : (backTo pos (starEach es X.env)).any (·.1) = false := by rfl) (hx : Passes CX0 X E0 := by exact pass0) :
    PE X (.Call (.Name x p) (e :: es) [] pos) (tCall sp [] E0 t) := by
  obtain ⟨f, fd, F, b, m, kp, _⟩ := C
  exact pe_call F hr hg m kp b .nil hx ha n1 n2 n3
/-! ### repr of data -/
def rRep (K : PySem.W.Frag) : List V → Hp → VK → Prop := fun xs H Q => ∃ (x : V) (d : PyData), xs = [x] ∧ Dp K H x d ∧
  d.showable = true ∧ d.hasDict = false ∧ d.depth ≤ 64 ∧ d.shown.length ≤ sizeLine ∧ Q (.str d.shown) H
theorem call_rep (free : X.A.guards = some []) (hu : X.A.units + 66 < cLine) : CallR X (.builtin "repr") (rRep X.K) := by
  intro pins s σ H xs us Q I r h
  obtain ⟨x, d, rfl, hd, hs, hn, h64, hz, q⟩ := h
  obtain ⟨u, rfl, rx⟩ := vals1 r
  have viaRef : ∀ (a : Addr), x = .ref a → wpAny (model X.prog X.w) X.A (call (.builtin "repr") [u]) (EP X pins σ Q) X.xe s := by
    intro a e
    subst e
    obtain rfl : u = Value.ref a := rx
    obtain ⟨as, rd⟩ := Dp.reads I d _ _ hd (rfl : RelV (.ref a) (.ref a))
    exact repr_of_reads' rd hs (PyData.noDict_hsm hn) free (by omega) (fun _ _ e => e)
      (fun h' w t kp => ⟨.str d.shown, H, I.kept (t' := t) kp, ⟨_, rfl⟩, q⟩) hz
  cases hd with
  | non =>
    obtain rfl : u = Value.none := rx
    exact PySem.P.repr_of_none ⟨.str _, H, I.tok _, ⟨_, rfl⟩, by simpa only [PyData.shown] using q⟩
  | bl b =>
    obtain rfl : u = Value.bool b := rx
    exact PySem.P.repr_of_bool ⟨.str _, H, I.tok _, ⟨_, rfl⟩, by simpa only [PyData.shown] using q⟩
  | int i =>
    obtain ⟨t, rfl⟩ := rx
    exact PySem.P.repr_of_int (by simpa [PyData.showable] using hs) ⟨.str _, H, I.tok _, ⟨_, rfl⟩, by simpa only [PyData.shown] using q⟩
  | str z =>
    obtain ⟨t, rfl⟩ := rx
    exact PySem.P.repr_of_str ⟨.str _, H, I.tok _, ⟨_, rfl⟩, by simpa only [PyData.shown] using q⟩ (by simpa only [PyData.shown] using hz)
  | lst _ _ => exact viaRef _ rfl
  | tup _ _ => exact viaRef _ rfl
/-! ### operators of several kinds in one -/
theorem u_eq (hu : X.A.units + 64 < cLine) : OpR X (compareOp .Eq) (fun x y H Q => rEq x y H Q ∨ rEqD X.K x y H Q) := op_eq.or (op_eqD hu)
theorem u_ne (hu : X.A.units + 64 < cLine) : OpR X (compareOp .NotEq) (fun x y H Q => rNe x y H Q ∨ rNeD X.K x y H Q) := op_ne.or (op_neD hu)
theorem u_in : OpR X (compareOp .In) (fun x y H Q => rIn X.K false x y H Q ∨ rInS x y H Q) := op_in_seq.or op_inS
theorem u_notin : OpR X (compareOp .NotIn) (fun x y H Q => rIn X.K true x y H Q ∨ rNotInS x y H Q) := op_notIn_seq.or op_notInS
end
theorem pe_fldK {X : Cx} {e : Expr} {f : Str} {pos : Pos} {ta : TE} (K : PySem.W.Frag) (ha : PE X e ta) (hK : X.K = K := by rfl)
    (hb : attributeBase e f X.env (eval e X.env) = eval e X.env := by rfl) : PE X (.Attribute e f pos) (tFld K ta f) := by
  subst hK
  exact pe_fld ha hb
/-! ### the written part named, for what stands within a comprehension -/
theorem op_K {X : Cx} {f : Value → Value → Sem Value} (r : PySem.W.Frag → R2) (K : PySem.W.Frag) (ho : OpR X f (r X.K)) (hK : X.K = K) : OpR X f (r K) := hK ▸ ho
theorem ix_K {X : Cx} (r : PySem.W.Frag → R2) (K : PySem.W.Frag) (ho : IxR X (r X.K)) (hK : X.K = K) : IxR X (r K) := hK ▸ ho
theorem call_K {X : Cx} {f : Value} (r : PySem.W.Frag → List V → Hp → VK → Prop) (K : PySem.W.Frag) (ho : CallR X f (r X.K)) (hK : X.K = K) : CallR X f (r K) := hK ▸ ho
section
variable {X : Cx} (K : PySem.W.Frag)
theorem u_inK (hK : X.K = K := by rfl) : OpR X (compareOp .In) (fun x y H Q => rIn K false x y H Q ∨ rInS x y H Q) := op_K (fun K x y H Q => rIn K false x y H Q ∨ rInS x y H Q) K u_in hK
theorem u_notinK (hK : X.K = K := by rfl) : OpR X (compareOp .NotIn) (fun x y H Q => rIn K true x y H Q ∨ rNotInS x y H Q) := op_K (fun K x y H Q => rIn K true x y H Q ∨ rNotInS x y H Q) K u_notin hK
theorem ix_listK (hK : X.K = K := by rfl) : IxR X (rIxL K) := ix_K rIxL K ix_list hK
theorem ix_tupK (hK : X.K = K := by rfl) : IxR X (rIxT K) := ix_K rIxT K ix_tup hK
theorem ix_seqK (hK : X.K = K := by rfl) : IxR X (rIx K) := ix_K rIx K ix_seq hK
theorem call_len_seqK (hK : X.K = K := by rfl) : CallR X (.builtin "len") (fun xs H Q => ∃ p ys, xs = [.ref p] ∧ (SqL K H p ys ∨ SqT K H p ys) ∧ Q (.int ys.length) H) :=
  call_K (fun K xs H Q => ∃ p ys, xs = [.ref p] ∧ (SqL K H p ys ∨ SqT K H p ys) ∧ Q (.int ys.length) H) K call_len_seq hK
end
/-! ### what changes: one list -/
/-- all that is tracked but p stays -/
def Chg (p : Addr) (H H' : Hp) : Prop := ∀ b o, b ≠ p → H b = some o → H' b = some o
theorem Chg.refl (p : Addr) (H : Hp) : Chg p H H := fun _ _ _ e => e
theorem Chg.trans {p : Addr} {H H1 H2 : Hp} (a : Chg p H H1) (b : Chg p H1 H2) : Chg p H H2 := fun c o n e => b c o n (a c o n e)
theorem Chg.self {p : Addr} {H : Hp} {o : HO} : Chg p H (upd H p o) := fun b u n e => by rw [upd_ne n]; exact e
theorem Chg.new {p q : Addr} {H H1 : Hp} {o : HO} (a : Chg p H H1) (n : H1 q = none) : Chg p H (upd H1 q o) := fun b u m e => by
  rw [upd_ne (ne_of_none (a b u m e) n)]; exact a b u m e
theorem Chg.same {p : Addr} {H H1 : Hp} (a : Same H H1) : Chg p H H1 := fun b o _ e => a b o e
theorem same_upd {H : Hp} {q : Addr} {o : HO} (n : H q = none) : Same H (upd H q o) := fun b u e => by
  rw [upd_ne (ne_of_none e n)]; exact e
/-! ### a law's draws: the pot -/
def PotL (n : Nat) (xs : List V) : Prop := ∃ a b c : Int, xs = [.int a, .int b, .int c] ∧ 0 ≤ a ∧ 0 ≤ b ∧ b < 2305843009213693951 ∧ 0 ≤ c ∧ c ≤ n
def PotAt (n : Nat) (H : Hp) (p : Addr) : Prop := ∃ xs, H p = some (.lst xs) ∧ PotL n xs
theorem PotL.mono {n m : Nat} {xs : List V} (h : PotL n xs) (le : n ≤ m) : PotL m xs := by
  obtain ⟨a, b, c, e, h1, h2, h3, h4, h5⟩ := h
  exact ⟨a, b, c, e, h1, h2, h3, h4, by omega⟩
theorem PotAt.mono {n m : Nat} {H : Hp} {p : Addr} (h : PotAt n H p) (le : n ≤ m) : PotAt m H p := by
  obtain ⟨xs, e, h⟩ := h
  exact ⟨xs, e, h.mono le⟩
theorem PotAt.keep {n : Nat} {H H' : Hp} {p : Addr} (h : PotAt n H p) (s : Same H H') : PotAt n H' p := by
  obtain ⟨xs, e, h⟩ := h
  exact ⟨xs, s _ _ e, h⟩
theorem PotAt.at {n : Nat} {H : Hp} {p : Addr} {xs : List V} (h : PotL n xs) : PotAt n (upd H p (.lst xs)) p := ⟨xs, upd_same, h⟩
end G0
/-! Wide powers, the law's own call with the script's bits told, len of an own object, sorted of a tuple of tuples of ints. -/
namespace G0
open PySem PySem.Spec PyProof.Rows L2
def CPowB (i j : Int) : Prop := 0 ≤ j ∧ (Builtin.Int.intBits i : Int) * j ≤ 2 ^ 27
theorem op_powB {X : Cx} : OpR X (binaryOp .Pow) (rI CPowB fun i j => .int (i ^ j.toNat)) := opI fun _ _ _ _ _ _ _ hc q => pow_int hc.1 hc.2 q
theorem walk_ofGB {l : PySem.W.OpenLaw} {n k : Nat} {q : Program} {loose : List Str} {XP : (Str → Option Value) → Heap → Prop}
    {YP : World → Heap → Prop} {d : DefRec} {K : Params → PySem.W.Frag} {sp : PySem.W.Frag → Sp} {x : Str}
    (hn : l.most = some n) (hn2 : n ≤ sizeLine) (hdf : d.params.defaults = []) (room : Room k callerA)
    (hY : ∀ (w : World) (h : Heap), YP w h → (K w.params).In h)
    (F : ∀ (w : World) (mg : Str → Option Value) (fa : Addr) (h : Heap), (K w.params).In h → h.Ns mainGlobals mg →
      mg d.name = some (.ref fa) → ∃ fd : FuncData, (∀ (s : Shared) (u : Value), BindsTo s fd ⟨[u], []⟩ [(x, u)]) ∧
        ∀ base : Heap, (K w.params).In base → base.Ns mainGlobals mg →
          FnG l.prog w (K w.params) mg base CX0 k fa fd [x] (sp (K w.params)))
    (asked : ∀ (K : PySem.W.Frag) (H : Hp) (a : Addr) (ns : List Int), ns.length ≤ n → (∀ z ∈ ns, Builtin.Int.intBits z ≤ 1048576) → Only H → SqL K H a (ns.map V.int) →
      sp K [.ref a] H (fun v _ => v = .bl true) fun _ _ _ => False) :
    PySem.W.WalkO q loose XP YP l.row.toRowW d [] (fun f vs => PySem.call f vs) := by
  refine Att.attach_callB hn hdf fun w s₀ s₁ mg mb fa o pm cd doc a vs ns G Y ho hd hcd named obj nums few bits nogens => ?_
  have KX := hY w _ Y
  obtain ⟨fd, bound, all⟩ := F w mg fa _ KX G.T.g named
  exact law_callG KX G.T.g G.T.b G.T.builtins G.T.nolimit nogens obj nums (Nat.le_trans few hn2) room all bound
    (fun H only seq => asked _ H a ns few bits only seq) fun H e s' z => z
/-! ### len of an own object -/
section
variable {X : Cx} {CX : CXT} {k : Nat} {f C : Addr} {fd : FuncData} {ps : List Str} {sp : Sp} {dvs : List V} {ds : List Value} {E : XK}
theorem run_fn1 {pins : List (Addr × Obj)} {σ : L2.St} {H : Hp} {s : Shared} {Q : VK} {us : List Value} {vs : List V}
    (F : FnOk X.prog X.w X.K X.mg X.base CX k f fd ps sp) (hr : Room (k + 1) X.A) (hb : Binds X.K fd ps ds) (hd : Vals dvs ds) (hx : Passes CX X E)
    (I : Inv X pins σ H s) (r : Vals vs us) (h : sp (vs ++ dvs) H Q E) : wpAny (model X.prog X.w) X.A.in1 (call (.ref f) us) (EP X pins σ Q) X.xe s := by
  have r2 : Vals (vs ++ dvs) (us ++ ds) := r.append hd
  have hl : (us ++ ds).length = ps.length := by rw [← r2.length]; exact F.len _ _ _ _ h
  refine wpAny_call (codeAny_mono (F.run X.A.in1 X.stack s H ⟨us, []⟩ (us ++ ds) (vs ++ dvs) Q E hr.in1 I.env0.in1 (hb s us I.kIn hl) r2 h) fun r s' hq => ?_)
  cases r with
  | error e => exact hx pins σ H s e s' I hq
  | ok fl =>
    cases fl with
    | ret u => exact I.after hq
    | next => exact False.elim hq
    | brk => exact False.elim hq
    | cont => exact False.elim hq
def rLenOwn (C : Addr) (sp : Sp) (E : XK) : List V → Hp → VK → Prop := fun xs H Q => ∃ (a dx : Addr) (fs : List (Str × V)), xs = [.ref a] ∧ H a = some (.ins C dx fs) ∧
  sp [.ref a] H (fun v H2 => ∃ n : Nat, v = .int n ∧ n ≤ sizeLine ∧ Q (.int n) H2) E
theorem call_lenOwn (hm : Meth X.K C "__len__" f) (F : FnOk X.prog X.w X.K X.mg X.base CX k f fd ps sp) (hr : Room (k + 1) X.A) (hb : Binds X.K fd ps []) (hx : Passes CX X E) :
    CallR X (.builtin "len") (rLenOwn C sp E) := by
  intro pins s σ H xs us Q I r h
  obtain ⟨a, dx, fs, rfl, e, q⟩ := h
  obtain ⟨u, rfl, ru⟩ := vals1 r
  obtain rfl : u = Value.ref a := ru
  obtain ⟨mA, O, _, _, _, _⟩ := ins_get I.hok e
  obtain ⟨od, ho, _⟩ := lookIn_ns O.ns
  have IA : PySem.W.InstAt s.heap a (PySem.W.instObj C dx) C (some od) := ⟨O.obj, rfl, rfl, ho⟩
  refine Calls.call_function_entry kind_len plain_len entry_len (args_len1 _) ?_
  unfold Builtin.«len»
  refine wpAny_bind (m := oneArg "len" _) (wpAny_pure ?_)
  refine wpAny_bind (m := callSpecial? (.ref a) (Str.ofString "__len__")) (PySem.W.special_fn I.kIn IA hm.at_ (beq_iff_eq.mp hm.fn)
    (wpAny_mono (run_fn1 (us := [.ref a]) (vs := [.ref a]) F hr hb .nil hx I (.cons rfl .nil) q) (fun r s' hr' => ?_) fun _ _ y => y))
  obtain ⟨v, H', I', rv, n, rfl, hn, q'⟩ := hr'
  obtain ⟨t, rfl⟩ := (show ∃ t, r = Value.int n t from rv)
  rw [sizeLine_eq] at hn
  refine wpAny_bind (wpAny_holding (wpAny_pure ?_))
  refine wpAny_bind (wpAny_letGo ?_)
  show wpAny _ _ (if ((n : Nat) : Int) < 0 then _ else _) _ _ _
  rw [if_neg (by omega)]
  show wpAny _ _ (if ((n : Nat) : Int) ≥ 2 ^ 63 then _ else _) _ _ _
  rw [if_neg (by omega)]
  exact wpAny_bind (wpAny_mkInt (wpAny_pure ⟨_, rfl, .int n, H', I'.tok _, ⟨_, rfl⟩, q'⟩))
end
/-! ### sorted of a tuple of tuples of ints -/
section
variable {prog : Program} {w : World} {A : Around} {E : Value → Shared → Prop} {s : Shared}
theorem collect_tup {l : Addr} {vs : List Value} {Q : List Value → Shared → Prop} (hl : IsTup s.heap l vs.toArray)
    (h : Q vs { s with heap := (s.heap.push (seqObj "list" #[] 0)).update s.heap.objs.size (Obj.mapSeq (· ++ vs.toArray)) }) (hsz : vs.length ≤ sizeLine) :
    wpAny (model prog w) A (collect (.ref l)) Q E s := by
  obtain ⟨o, ho, hc, n, hd⟩ := id hl
  unfold collect
  refine wpAny_bind (wpAny_runValue (codeAny_builtin entry_proto_collect' ?_))
  show wpAny _ _ (do again (.builtin "list.__iadd__" ⟨[← newList [], .ref l], []⟩)) _ _ s
  refine wpAny_bind (wpAny_newList (wpAny_pure ⟨Code.quiet_builtin _ (by decide +kernel), codeAny_builtin entry_list_iadd' ?_⟩))
  show wpAny _ _ (Builtin.List.listExtendWith (.ref s.heap.objs.size) (.ref l) (.ref s.heap.objs.size)) _ _ { s with heap := s.heap.push (seqObj "list" #[] 0) }
  unfold Builtin.List.listExtendWith
  have ho' : (s.heap.push (seqObj "list" #[] 0)).get? l = some o := Heap.get?_push_of_some _ ho
  refine wpAny_bind (wpAny_typeOf (T := "tuple") ⟨o, ho', hc⟩ ?_)
  have ht : (Value.type "tuple" == Value.type "tuple") = true := by rfl
  rw [if_pos (by rw [ht]; simp)]
  refine wpAny_bind (listItems_at ho' hd ?_)
  refine wpAny_bind (listItems_at (xs := #[]) (n := 0) (Heap.get?_push_size _ rfl) rfl ?_)
  rw [if_neg (by simp)]
  refine wpAny_bind (listUpdate_at (xs := #[]) (n := 0) (Heap.get?_push_size _ rfl) rfl ?_ (Nat.zero_le _) (by show (#[] ++ vs.toArray).size ≤ sizeLine + 1; simp only [Array.size_append, List.size_toArray, List.length_nil]; omega))
  refine wpAny_pure ?_
  show wpAny (model prog w) A (do
      let o ← load s.heap.objs.size
      match o.data with
      | .seq xs _ => pure xs.toList
      | _ => unsupported "internal:collect") Q E { s with heap := (s.heap.push (seqObj "list" #[] 0)).update s.heap.objs.size (Obj.mapSeq (· ++ vs.toArray)) }
  refine wpAny_bind (wpAny_load (get?_update_seq (Heap.get?_push_size _ rfl) _) ?_)
  show wpAny _ _ (pure ((#[] : Array Value) ++ vs.toArray).toList) Q E _
  rw [show ((#[] : Array Value) ++ vs.toArray).toList = vs by simp]
  exact wpAny_pure h
open TS in
theorem sorted_tupsT {l : Addr} {vs : List Value} {d : Nat} {B : Int} {Q : Value → Shared → Prop} (hl : IsTup s.heap l vs.toArray) (h64 : vs.length < 64) (hd : 1 ≤ d) (x : TupsOk s.heap d B vs)
    (h : ∀ out : Array Value, out.toList.Perm vs → out.toList.Pairwise (fun u v => code B (intsOf s.heap u) ≤ code B (intsOf s.heap v)) → Q (.ref (s.heap.objs.size + 1)) { s with heap := sortedAll s.heap vs out }) :
    wpAny (model prog w) A (call (.builtin "sorted") [.ref l]) Q E s := by
  refine Calls.call_function_entry kind_sorted plain_sorted entry_sorted (args_sorted1 _) ?_
  unfold Builtin.«sorted»
  refine wpAny_bind (m := checkCount "sorted" 1 1 _) (wpAny_pure ?_)
  refine wpAny_bind (collect_tup hl ?_ (by rw [sizeLine_eq]; omega))
  refine wpAny_bind (wpAny_newList ?_ (by rw [sizeLine_eq]; omega))
  have hsz : ((s.heap.push (seqObj "list" #[] 0)).update s.heap.objs.size (Obj.mapSeq (· ++ vs.toArray))).objs.size = s.heap.objs.size + 1 := by
    rw [Heap.size_update, size_push']
  have hoL : (((s.heap.push (seqObj "list" #[] 0)).update s.heap.objs.size (Obj.mapSeq (· ++ vs.toArray))).push (seqObj "list" vs.toArray 0)).get? (s.heap.objs.size + 1) = some (seqObj "list" vs.toArray 0) := by
    rw [← hsz]; exact Heap.get?_push_size _ rfl
  have keep : ∀ b o, s.heap.get? b = some o → o.cls = .type "tuple" → (((s.heap.push (seqObj "list" #[] 0)).update s.heap.objs.size (Obj.mapSeq (· ++ vs.toArray))).push (seqObj "list" vs.toArray 0)).get? b = some o := fun b o q _ => by
    have hlt : b < s.heap.objs.size := Heap.lt_size q
    rw [Heap.get?_push_ne _ _ _ (by rw [hsz]; exact Nat.ne_of_lt (Nat.lt_succ_of_lt hlt)), Heap.get?_update_ne _ _ _ _ (Nat.ne_of_lt hlt), Heap.get?_push_ne _ _ _ (Nat.ne_of_lt hlt)]
    exact q
  show wpAny _ _ _ _ _ { s with heap := ((s.heap.push (seqObj "list" #[] 0)).update s.heap.objs.size (Obj.mapSeq (· ++ vs.toArray))).push (seqObj "list" vs.toArray 0) }
  rw [hsz]
  refine wpAny_bind (wpAny_holding (wpAny_call_entry slot_list_sort ⟨_, hoL, rfl⟩ entry_list_sort (sort_tups hoL h64 hd (x.keeps keep) (fun v => code B (intsOf s.heap v)) (fun v hv ns t => ?_) fun out a1 a2 => ⟨_, rfl, ?_⟩) (args_list_sort _)))
  · obtain ⟨ns0, t0, _⟩ := x v hv
    have e : ns = ns0 := t.ints.symm.trans (t0.keeps keep).ints
    rw [e]
    show code B (intsOf s.heap v) = code B ns0
    rw [t0.ints]
  · exact wpAny_pure ⟨_, rfl, h out a1 a2⟩
end
def rSortUT (K : PySem.W.Frag) (d : Nat) (B : Int) : List V → Hp → VK → Prop := fun vs H Q => ∃ (a : Addr) (xs : List V), vs = [V.ref a] ∧ SqT K H a xs ∧ xs.length < 64 ∧ (∀ x ∈ xs, ∃ ns, TupI K H x ns ∧ ns.length = d ∧ TS.Bd B ns) ∧
  ∀ (ys : List V) (p : Addr), ys.Perm xs → ys.Pairwise (fun x y => ∀ n m, TupI K H x n → TupI K H y m → TS.code B n ≤ TS.code B m) → H p = none → Q (.ref p) (upd H p (.lst ys))
theorem cr_sortTT {X : Cx} {d : Nat} {B : Int} (hd : 1 ≤ d) : CallR X (.builtin "sorted") (rSortUT X.K d B) := by
  intro pins s σ H vs us Q I r h
  obtain ⟨a, xs, rfl, hs, h64, hx, q⟩ := h
  obtain ⟨its, rv, hl, hz⟩ := I.tuple hs
  rw [Vals.ref1 r]
  obtain ⟨e1, e2⟩ := bkV_refs rv fun x m => by
    obtain ⟨ns, ⟨t, e, _⟩, _⟩ := hx x m
    exact ⟨t, e⟩
  refine sorted_tupsT (d := d) (B := B) hl (by rw [← rv.length]; exact h64) hd (fun v hv => ?_) fun out h1 h2 => ?_
  · obtain ⟨t, rfl⟩ := e2 v hv
    have hm : V.ref t ∈ xs := by
      rw [e1]
      exact List.mem_map.mpr ⟨_, hv, rfl⟩
    obtain ⟨ns, ⟨t', e, ht⟩, hn, hb⟩ := hx _ hm
    cases e
    exact ⟨ns, tupI_raw I ht, hn, hb⟩
  · obtain ⟨ep, he'⟩ := PyProof.Rows.sortedAll_at s.heap its out
    have h3 : ∀ u ∈ out.toList, ∃ a, u = Value.ref a := fun u hu => e2 u (h1.mem_iff.mp hu)
    have hp : (out.toList.map bkV).Perm xs := by
      rw [e1]
      exact h1.map bkV
    have hlen : (out.toList.map bkV).length ≤ sizeLine := by
      rw [hp.length_eq]
      exact hz
    refine ⟨.ref _, upd H (s.heap.objs.size + 1) (.lst (out.toList.map bkV)), I.laid (t' := s.toks) (fun _ _ => PyProof.Rows.sortedAll_old) (Nat.le_succ _) ⟨hlen, out.toList, ep, bkV_vals h3, he'⟩, rfl, q _ _ hp ?_ (I.hok.fresh (Nat.le_succ _))⟩
    rw [List.pairwise_map]
    refine List.Pairwise.imp (fun {u v} huv n m hn hm => ?_) h2
    obtain ⟨t, et, ht⟩ := hn
    obtain ⟨t', et', ht'⟩ := hm
    have eu := bkV_ref et
    have ev := bkV_ref et'
    have i1 : TS.intsOf s.heap u = n := by
      rw [eu]
      exact (tupI_raw I ht).ints
    have i2 : TS.intsOf s.heap v = m := by
      rw [ev]
      exact (tupI_raw I ht').ints
    rw [← i1, ← i2]
    exact huv
end G0
namespace G0
open PySem PySem.Spec PyProof.Rows L2
/-! ### data -/
mutual
def noL : PyData → Bool
  | .none | .bool _ | .int _ | .str _ => true
  | .list _ | .dict _ => false
  | .tuple xs => noLs xs
def noLs : List PyData → Bool
  | [] => true
  | x :: xs => noL x && noLs xs
end
section
variable {K : PySem.W.Frag} {H H' : Hp} {p : Addr}
theorem sqt_chg (hp : ∃ xs, H p = some (.lst xs)) (c : Chg p H H') {a : Addr} {xs : List V} (h : SqT K H a xs) : SqT K H' a xs := by
  obtain ⟨ys, hp⟩ := hp
  rcases h with (h | ⟨o, h⟩) | h
  · exact .inl (.inl (c _ _ (ne_of h hp (by intro z; cases z)) h))
  · exact .inl (.inr ⟨o, c _ _ (ne_of h hp (by intro z; cases z)) h⟩)
  · exact .inr h
theorem sqt_same (c : Same H H') {a : Addr} {xs : List V} (h : SqT K H a xs) : SqT K H' a xs := by
  rcases h with (h | ⟨o, h⟩) | h
  · exact .inl (.inl (c _ _ h))
  · exact .inl (.inr ⟨o, c _ _ h⟩)
  · exact .inr h
mutual
theorem dp_chg (hp : ∃ xs, H p = some (.lst xs)) (c : Chg p H H') : ∀ (d : PyData) (v : V), noL d = true → Dp K H v d → Dp K H' v d
  | .none, _, _, h => by cases h; exact .non
  | .bool _, _, _, h => by cases h; exact .bl _
  | .int _, _, _, h => by cases h; exact .int _
  | .str _, _, _, h => by cases h; exact .str _
  | .list _, _, n, _ => by simp [noL] at n
  | .dict _, _, n, _ => by simp [noL] at n
  | .tuple ds, _, n, h => by
    cases h with
    | tup hs ha => exact .tup (sqt_chg hp c hs) (dps_chg hp c ds _ (by simpa [noL] using n) ha)
theorem dps_chg (hp : ∃ xs, H p = some (.lst xs)) (c : Chg p H H') : ∀ (ds : List PyData) (vs : List V), noLs ds = true → DpAll K H vs ds → DpAll K H' vs ds
  | [], _, _, h => by cases h; exact .nil
  | d :: ds, _, n, h => by
    simp only [noLs, Bool.and_eq_true] at n
    cases h with
    | cons h1 h2 => exact .cons (dp_chg hp c d _ n.1 h1) (dps_chg hp c ds _ n.2 h2)
end
mutual
theorem dp_same (c : Same H H') : ∀ (d : PyData) (v : V), Dp K H v d → Dp K H' v d
  | .none, _, h => by cases h; exact .non
  | .bool _, _, h => by cases h; exact .bl _
  | .int _, _, h => by cases h; exact .int _
  | .str _, _, h => by cases h; exact .str _
  | .list ds, _, h => by
    cases h with
    | lst hs ha => exact .lst (c.seq hs) (dps_same c ds _ ha)
  | .dict _, _, h => by cases h
  | .tuple ds, _, h => by
    cases h with
    | tup hs ha => exact .tup (sqt_same c hs) (dps_same c ds _ ha)
theorem dps_same (c : Same H H') : ∀ (ds : List PyData) (vs : List V), DpAll K H vs ds → DpAll K H' vs ds
  | [], _, h => by cases h; exact .nil
  | d :: ds, _, h => by
    cases h with
    | cons h1 h2 => exact .cons (dp_same c d _ h1) (dps_same c ds _ h2)
end
theorem dps_app {vs ws : List V} {ds es : List PyData} : DpAll K H vs ds → DpAll K H ws es → DpAll K H (vs ++ ws) (ds ++ es) := by
  intro h g
  match vs, ds, h with
  | [], [], _ => exact g
  | _ :: _, _ :: _, .cons h1 h2 => exact .cons h1 (dps_app h2 g)
theorem dps_len {vs : List V} {ds : List PyData} : DpAll K H vs ds → vs.length = ds.length := by
  intro h
  match vs, ds, h with
  | [], [], _ => rfl
  | _ :: _, _ :: _, .cons _ h2 => exact congrArg (· + 1) (dps_len h2)
end
theorem noLs_of : ∀ {ds : List PyData}, (∀ d ∈ ds, noL d = true) → noLs ds = true
  | [], _ => rfl
  | d :: ds, h => by
    simp only [noLs, Bool.and_eq_true]
    exact ⟨h d (List.mem_cons_self ..), noLs_of fun x hx => h x (List.mem_cons_of_mem _ hx)⟩
/-! ### things and letters -/
inductive Thing : Nat → PyData → Prop
  | num {n : Nat} {i : Int} : 0 ≤ i → i < 10 ^ 60 → Thing n (.int i)
  | tup {n : Nat} {ds : List PyData} : ds.length ≤ 2 → (∀ d ∈ ds, Thing n d) → Thing (n + 1) (.tuple ds)
theorem Thing.noL {n : Nat} {d : PyData} (h : Thing n d) : noL d = true := by
  induction h with
  | num _ _ => rfl
  | tup _ _ ih =>
    simp only [G0.noL]
    exact noLs_of ih
theorem Thing.mono {n m : Nat} {d : PyData} (h : Thing n d) (le : n ≤ m) : Thing m d := by
  induction h generalizing m with
  | num a b => exact .num a b
  | tup l _ ih =>
    cases m with
    | zero => omega
    | succ m => exact .tup l fun d hd => ih d hd (by omega)
def WordOk (z : Str) : Prop := 1 ≤ z.length ∧ z.length ≤ 8 ∧ (∀ c ∈ z.cps.toList, 97 ≤ c ∧ c ≤ 122) ∧ z ≠ "gone"
def LetterD (d : PyData) : Prop := ∃ (z : Str) (ds : List PyData), d = .tuple (.str z :: ds) ∧ WordOk z ∧ ds.length ≤ 5 ∧ ∀ x ∈ ds, Thing 3 x
theorem LetterD.noL {d : PyData} (h : LetterD d) : noL d = true := by
  obtain ⟨z, ds, rfl, _, _, hd⟩ := h
  simp only [G0.noL, noLs, Bool.true_and]
  exact noLs_of fun x hx => (hd x hx).noL
theorem Chg.mut {p D : Addr} {H0 H1 : Hp} {o : HO} (a : Chg p H0 H1) (n : H0 D = none) : Chg p H0 (upd H1 D o) := fun b u m e => by
  rw [upd_ne (ne_of_none e n)]; exact a b u m e
theorem PotAt.ne {n : Nat} {H H' : Hp} {p D : Addr} {o : HO} (h : PotAt n H p) (d : p ≠ D) (e : H' = upd H D o) : PotAt n H' p := by
  obtain ⟨xs, q, r⟩ := h
  exact ⟨xs, by rw [e, upd_ne d]; exact q, r⟩
theorem PotAt.new {n : Nat} {H : Hp} {p D : Addr} {o : HO} (h : PotAt n H p) (d : H D = none) : PotAt n (upd H D o) p := h.keep (same_upd d)
theorem PotAt.neD {n : Nat} {H : Hp} {p D : Addr} (h : PotAt n H p) (d : H D = none) : p ≠ D := by
  obtain ⟨xs, q, r⟩ := h
  exact ne_of_none q d
theorem PotAt.lst {n : Nat} {H : Hp} {p : Addr} (h : PotAt n H p) : ∃ xs, H p = some (.lst xs) := by
  obtain ⟨xs, q, r⟩ := h
  exact ⟨xs, q⟩
theorem PotAt.neT {n : Nat} {H : Hp} {p t : Addr} {xs : List V} (h : PotAt n H p) (d : H t = some (.tup xs)) : t ≠ p := by
  obtain ⟨ys, q, r⟩ := h
  exact ne_of d q (by intro z; cases z)
theorem Cal.imp {P : Program} {w : World} {K : PySem.W.Frag} {mg : Str → Option Value} {base : Heap} {x : Str} {k : Nat} {ps : List Str} {sp sp' : Sp}
    (C : Cal P w K mg base x k ps sp) (h : ∀ vs H Q E, sp' vs H Q E → sp vs H Q E) : Cal P w K mg base x k ps sp' := by
  obtain ⟨f, fd, F, r⟩ := C
  exact ⟨f, fd, ⟨fun a b c d q => F.len _ _ _ _ (h _ _ _ _ q), fun A o s H args us vs Q E hr he hb hv hs => F.run A o s H args us vs Q E hr he hb hv (h _ _ _ _ hs)⟩, r⟩
theorem cal_no {P : Program} {w : World} {K : PySem.W.Frag} {mg : Str → Option Value} {base : Heap} {x : Str} {st : Stmt} {ps : List Str} (F : Fn K mg x st)
    (bd : ∀ (kV doc pm : Value) (an : Option Addr) (cdv ct : Value) (us : List Value), us.length = ps.length →
      bindArgs (PySem.W.fnOf x x (defArgs st) (defBody st) (defScope st) .none kV doc pm an cdv ct) ⟨us, []⟩ = pure (ps.zip us)) :
    Cal P w K mg base x 0 ps (fun _ _ _ _ => False) := by
  obtain ⟨f, fd, F, m⟩ := F
  obtain ⟨oc, od, kV, doc, pm, an, cdv, ct, osl, e, lk, c⟩ := id F.ex
  exact ⟨f, fd, ⟨fun _ _ _ _ h => h.elim, fun _ _ _ _ _ _ _ _ _ _ _ _ _ h => h.elim⟩, F.binds bd, m, F.kp, oc, od, osl, lk⟩
/-! ### texts of small letters -/
theorem az : ∀ j : Fin 26, (("abcdefghijklmnopqrstuvwxyz" : Str).cps.toList)[j.val]? = some (97 + j.val) := by decide +kernel
theorem az_at {d : Int} (h0 : 0 ≤ d) (h1 : d < 26) : atI ("abcdefghijklmnopqrstuvwxyz" : Str).cps.toList d = some (97 + d.toNat) := by
  have e : d = ((d.toNat : Nat) : Int) := by omega
  have q := az ⟨d.toNat, by omega⟩
  rw [e]
  exact atI_nat q
def sg (c : Nat) : Str := ⟨#[c]⟩
open TL in
theorem joinL_sg : ∀ cs : List Nat, joinL [] (cs.map fun c => [c]) = cs
  | [] => rfl
  | [c] => rfl
  | c :: d :: r => by
    show [c] ++ ([] ++ joinL [] ((d :: r).map fun c => [c])) = c :: d :: r
    rw [joinL_sg (d :: r)]
    rfl
open TL in
theorem tl_of (z : Str) : tl z = z.cps.toList := rfl
open TL in
theorem join_sg (cs : List Nat) : (Txt.join "" (cs.map sg)).cps.toList = cs := by
  rw [join_eq, ← tl_of, tl_join]
  have e : (cs.map sg).map tl = cs.map fun c => [c] := by rw [List.map_map]; rfl
  rw [e]
  exact joinL_sg cs
open TL in
theorem join_sg_len (cs : List Nat) : (Txt.join "" (cs.map sg)).length = cs.length := by
  have e := congrArg List.length (join_sg cs)
  rw [← e]
  show _ = (Txt.join "" (cs.map sg)).cps.toList.length
  simp [Str.length]
theorem sum_sg : ∀ cs : List Nat, ((cs.map sg).map (·.length)).sum = cs.length
  | [] => rfl
  | c :: r => by
    show 1 + ((r.map sg).map (·.length)).sum = r.length + 1
    rw [sum_sg r]; omega

end G0
namespace G0
open PySem PySem.Spec PyProof.Rows L2
theorem iteF' {c : Bool} {A B : Prop} (e : c = false) (h : B) : if c = true then A else B := by rw [e]; exact iteF h
theorem iteT' {c : Bool} {A B : Prop} (e : c = true) (h : A) : if c = true then A else B := by rw [e]; exact iteT h
/-! ### several lists may change -/
def ChgS (S : List Addr) (H H' : Hp) : Prop := ∀ b o, b ∉ S → H b = some o → H' b = some o
section
variable {S : List Addr} {p q : Addr} {H H' H0 H1 H2 : Hp} {o : HO}
theorem ChgS.refl : ChgS S H H := fun _ _ _ e => e
theorem ChgS.trans (a : ChgS S H H1) (b : ChgS S H1 H2) : ChgS S H H2 := fun c o n e => b c o n (a c o n e)
theorem Chg.s (h : Chg p H H') (m : p ∈ S) : ChgS S H H' := fun b o n e => h b o (fun z => n (z ▸ m)) e
theorem Same.s (h : Same H H') : ChgS S H H' := fun b o _ e => h b o e
theorem ChgS.mono {T : List Addr} (h : ChgS S H H') (m : ∀ b ∈ S, b ∈ T) : ChgS T H H' := fun b o n e => h b o (fun z => n (m b z)) e
theorem ChgS.new (a : ChgS S H H1) (n : H1 q = none) : ChgS S H (upd H1 q o) := fun b u m e => by
  rw [upd_ne (ne_of_none (a b u m e) n)]; exact a b u m e
theorem ChgS.mut (a : ChgS S H H1) (n : H q = none) : ChgS S H (upd H1 q o) := fun b u m e => by
  rw [upd_ne (ne_of_none e n)]; exact a b u m e
theorem ChgS.put (a : ChgS S H H1) (m : q ∈ S) : ChgS S H (upd H1 q o) := fun b u n e => by
  have nb : b ≠ q := fun z => n (by rw [z]; exact m)
  rw [upd_ne nb]; exact a b u n e
/-- what is new behind was new ahead -/
theorem ChgS.back (a : ChgS S H H1) (n : H1 q = none) (m : q ∉ S) : H q = none := by
  cases e : H q with
  | none => rfl
  | some u => rw [a q u m e] at n; cases n
theorem Chg.back (a : Chg p H H1) (n : H1 q = none) (m : q ≠ p) : H q = none := by
  cases e : H q with
  | none => rfl
  | some u => rw [a q u m e] at n; cases n
theorem PotAt.keepS {n : Nat} (h : PotAt n H p) (s : ChgS S H H') (m : p ∉ S) : PotAt n H' p := by
  obtain ⟨xs, e, h⟩ := h
  exact ⟨xs, s _ _ m e, h⟩
end
/-! ### lists of ints -/
section
variable {K : PySem.W.Frag} {H : Hp}
theorem dps_ints : ∀ ns : List Int, DpAll K H (ns.map V.int) (ns.map PyData.int)
  | [] => .nil
  | n :: r => .cons (.int n) (dps_ints r)
theorem dp_ints {a : Addr} {ns : List Int} (h : H a = some (.lst (ns.map V.int))) : Dp K H (.ref a) (.list (ns.map PyData.int)) := .lst (SqL.of h) (dps_ints ns)
theorem lay_ints : ∀ ns : List Int, PyData.canLayAll0 (ns.map PyData.int) = true
  | [] => by simp [PyData.canLayAll0]
  | n :: r => by simp [PyData.canLayAll0, PyData.canLay0, lay_ints r]
theorem deep_ints : ∀ ns : List Int, PyData.depthAll (ns.map PyData.int) = 0
  | [] => by simp [PyData.depthAll]
  | n :: r => by simp [PyData.depthAll, PyData.depth, deep_ints r]
theorem shaped_ints (ns : List Int) : SeqAt.shaped (.list (ns.map PyData.int)) = true := by
  show ((PyData.list (ns.map PyData.int)).canLay0 && decide ((PyData.list (ns.map PyData.int)).depth ≤ 64)) = true
  simp [PyData.canLay0, PyData.depth, lay_ints, deep_ints]
theorem flat_ints : ∀ ns : List Int, (ns.map V.int).all flatV = true
  | [] => rfl
  | n :: r => by simp [flatV, flat_ints r]
theorem inV_ints (v : Int) : ∀ ns : List Int, inV (.int v) (ns.map V.int) = decide (v ∈ ns)
  | [] => by simp [inV]
  | n :: r => by
    have ih := inV_ints v r
    unfold inV at ih ⊢
    rw [List.map_cons, List.any_cons, ih]
    show ((n == v) || decide (v ∈ r)) = decide (v ∈ n :: r)
    by_cases e : n = v
    · subst e; simp
    · have e' : ¬ v = n := fun z => e z.symm
      simp [e, e']
theorem at_ints {ns : List Int} {d : Int} (h0 : 0 ≤ d) (h1 : d < ns.length) : ∃ v, v ∈ ns ∧ atI (ns.map V.int) d = some (.int v) := by
  have hk : d.toNat < ns.length := by omega
  have ek : d = ((d.toNat : Nat) : Int) := by omega
  refine ⟨ns[d.toNat], List.getElem_mem hk, ?_⟩
  have q : atI (ns.map V.int) ((d.toNat : Nat) : Int) = some (.int ns[d.toNat]) := atI_nat (by rw [List.getElem?_map, List.getElem?_eq_getElem hk] <;> rfl)
  rw [← ek] at q
  exact q
end
/-! ### how long a repr is -/
mutual
def cost : PyData → Nat
  | .none => 4
  | .bool _ => 5
  | .int _ => 1921
  | .str x => 10 * x.length + 2
  | .list xs => 2 + costs xs
  | .tuple xs => 4 + costs xs
  | .dict _ => 0
def costs : List PyData → Nat
  | [] => 0
  | x :: xs => cost x + 2 + costs xs
end
theorem from_le : ∀ (ts : List Str) (k : Nat) (acc : Str), (textFrom k acc ts).length ≤ acc.length + (ts.map fun t => t.length + 2).sum
  | [], k, acc => by show acc.length ≤ _; simp
  | t :: r, k, acc => by
    have ih := from_le r (k + 1) (acc ++ (if k > 0 then ", " else "" : String) ++ t)
    show (textFrom (k + 1) _ r).length ≤ _
    rw [List.map_cons, List.sum_cons]
    rw [Str.length_append, Str.length_append] at ih
    have sep : (Str.ofString (if k > 0 then ", " else "")).length ≤ 2 := by split <;> decide
    omega
theorem join_le : ∀ ts : List Str, (Str.join ", " ts).length ≤ (ts.map fun t => t.length + 2).sum
  | [] => by decide
  | [x] => by show x.length ≤ _; simp
  | x :: y :: r => by
    have ih := join_le (y :: r)
    show (x ++ (", " : Str) ++ Str.join ", " (y :: r)).length ≤ _
    rw [Str.length_append, Str.length_append, List.map_cons, List.sum_cons]
    have : (", " : Str).length = 2 := by decide
    omega
theorem small_cps {x : Str} (h : PyData.strOk x = true) : ∀ c ∈ x.cps.toList, c < 16 ^ 8 := fun c hc => by
  unfold PyData.strOk at h
  rw [Array.all_eq_true_iff_forall_mem] at h
  have := of_decide_eq_true (h c (Array.mem_toList_iff.mp hc))
  omega
mutual
theorem shown_le : ∀ d : PyData, d.showable = true → d.canLay0 = true → d.shown.length ≤ cost d
  | .none, _, _ => by show (("None" : Str)).length ≤ 4; decide
  | .bool b, _, _ => by cases b <;> (simp only [PyData.shown, cost]; decide)
  | .int i, h, _ => by
    simp only [PyData.shown, cost]
    exact int_text_len_1921 (by simpa [PyData.showable] using h)
  | .str x, _, h => by
    simp only [PyData.shown, cost]
    exact StrLaws.reprText_len x (small_cps (by simpa [PyData.canLay0] using h))
  | .list xs, h, l => by
    have ih := shown_les xs (by simpa [PyData.showable] using h) (by simpa [PyData.canLay0] using l)
    simp only [PyData.shown, cost]
    show (textFrom 0 "[" (PyData.shownAll xs) ++ ("]" : Str)).length ≤ _
    have := from_le (PyData.shownAll xs) 0 "["
    have a : ("[" : Str).length = 1 := by decide
    have b : ("]" : Str).length = 1 := by decide
    rw [Str.length_append]
    omega
  | .tuple xs, h, l => by
    have ih := shown_les xs (by simpa [PyData.showable] using h) (by simpa [PyData.canLay0] using l)
    simp only [PyData.shown, cost]
    show (("(" : Str) ++ Str.join ", " (PyData.shownAll xs) ++ (Str.ofString (if (PyData.shownAll xs).length == 1 then ",)" else ")"))).length ≤ _
    have := join_le (PyData.shownAll xs)
    have a : ("(" : Str).length = 1 := by decide
    have b : (Str.ofString (if (PyData.shownAll xs).length == 1 then ",)" else ")")).length ≤ 2 := by split <;> decide
    rw [Str.length_append, Str.length_append]
    omega
  | .dict _, _, h => by simp [PyData.canLay0] at h
theorem shown_les : ∀ ds : List PyData, PyData.showableAll ds = true → PyData.canLayAll0 ds = true → ((PyData.shownAll ds).map fun t => t.length + 2).sum ≤ costs ds
  | [], _, _ => Nat.le_refl _
  | d :: ds, h, l => by
    simp only [PyData.showableAll, Bool.and_eq_true] at h
    simp only [PyData.canLayAll0, Bool.and_eq_true] at l
    have h1 := shown_le d h.1 l.1
    have h2 := shown_les ds h.2 l.2
    simp only [PyData.shownAll, costs, List.map_cons, List.sum_cons]
    omega
end

end G0
namespace G0
open PySem PySem.Spec PyProof.Rows L2
theorem n_caF_me_stt : (("me" : Str) = "state") = False := eq_false (by decide +kernel)
theorem n_caF_me_sits : (("me" : Str) = "sits") = False := eq_false (by decide +kernel)
theorem n_caF_me_rnd : (("me" : Str) = "round") = False := eq_false (by decide +kernel)
theorem n_caF_me_ros : (("me" : Str) = "_roster") = False := eq_false (by decide +kernel)
theorem n_caF_me_nms : (("me" : Str) = "_numbers") = False := eq_false (by decide +kernel)
theorem n_caF_me_key : (("me" : Str) = "_key") = False := eq_false (by decide +kernel)
theorem n_caF_me_bgn : (("me" : Str) = "_begun") = False := eq_false (by decide +kernel)
theorem n_caF_me_plg : (("me" : Str) = "_pledges") = False := eq_false (by decide +kernel)
theorem n_caF_stt_me : (("state" : Str) = "me") = False := eq_false (by decide +kernel)
theorem n_caF_stt_sits : (("state" : Str) = "sits") = False := eq_false (by decide +kernel)
theorem n_caF_stt_rnd : (("state" : Str) = "round") = False := eq_false (by decide +kernel)
theorem n_caF_stt_ros : (("state" : Str) = "_roster") = False := eq_false (by decide +kernel)
theorem n_caF_stt_nms : (("state" : Str) = "_numbers") = False := eq_false (by decide +kernel)
theorem n_caF_stt_key : (("state" : Str) = "_key") = False := eq_false (by decide +kernel)
theorem n_caF_stt_bgn : (("state" : Str) = "_begun") = False := eq_false (by decide +kernel)
theorem n_caF_stt_plg : (("state" : Str) = "_pledges") = False := eq_false (by decide +kernel)
theorem n_caF_sits_me : (("sits" : Str) = "me") = False := eq_false (by decide +kernel)
theorem n_caF_sits_stt : (("sits" : Str) = "state") = False := eq_false (by decide +kernel)
theorem n_caF_sits_rnd : (("sits" : Str) = "round") = False := eq_false (by decide +kernel)
theorem n_caF_sits_ros : (("sits" : Str) = "_roster") = False := eq_false (by decide +kernel)
theorem n_caF_sits_nms : (("sits" : Str) = "_numbers") = False := eq_false (by decide +kernel)
theorem n_caF_sits_key : (("sits" : Str) = "_key") = False := eq_false (by decide +kernel)
theorem n_caF_sits_bgn : (("sits" : Str) = "_begun") = False := eq_false (by decide +kernel)
theorem n_caF_sits_plg : (("sits" : Str) = "_pledges") = False := eq_false (by decide +kernel)
theorem n_caF_rnd_me : (("round" : Str) = "me") = False := eq_false (by decide +kernel)
theorem n_caF_rnd_stt : (("round" : Str) = "state") = False := eq_false (by decide +kernel)
theorem n_caF_rnd_sits : (("round" : Str) = "sits") = False := eq_false (by decide +kernel)
theorem n_caF_rnd_ros : (("round" : Str) = "_roster") = False := eq_false (by decide +kernel)
theorem n_caF_rnd_nms : (("round" : Str) = "_numbers") = False := eq_false (by decide +kernel)
theorem n_caF_rnd_key : (("round" : Str) = "_key") = False := eq_false (by decide +kernel)
theorem n_caF_rnd_bgn : (("round" : Str) = "_begun") = False := eq_false (by decide +kernel)
theorem n_caF_rnd_plg : (("round" : Str) = "_pledges") = False := eq_false (by decide +kernel)
theorem n_caF_ros_me : (("_roster" : Str) = "me") = False := eq_false (by decide +kernel)
theorem n_caF_ros_stt : (("_roster" : Str) = "state") = False := eq_false (by decide +kernel)
theorem n_caF_ros_sits : (("_roster" : Str) = "sits") = False := eq_false (by decide +kernel)
theorem n_caF_ros_rnd : (("_roster" : Str) = "round") = False := eq_false (by decide +kernel)
theorem n_caF_ros_nms : (("_roster" : Str) = "_numbers") = False := eq_false (by decide +kernel)
theorem n_caF_ros_key : (("_roster" : Str) = "_key") = False := eq_false (by decide +kernel)
theorem n_caF_ros_bgn : (("_roster" : Str) = "_begun") = False := eq_false (by decide +kernel)
theorem n_caF_ros_plg : (("_roster" : Str) = "_pledges") = False := eq_false (by decide +kernel)
theorem n_caF_nms_me : (("_numbers" : Str) = "me") = False := eq_false (by decide +kernel)
theorem n_caF_nms_stt : (("_numbers" : Str) = "state") = False := eq_false (by decide +kernel)
theorem n_caF_nms_sits : (("_numbers" : Str) = "sits") = False := eq_false (by decide +kernel)
theorem n_caF_nms_rnd : (("_numbers" : Str) = "round") = False := eq_false (by decide +kernel)
theorem n_caF_nms_ros : (("_numbers" : Str) = "_roster") = False := eq_false (by decide +kernel)
theorem n_caF_nms_key : (("_numbers" : Str) = "_key") = False := eq_false (by decide +kernel)
theorem n_caF_nms_bgn : (("_numbers" : Str) = "_begun") = False := eq_false (by decide +kernel)
theorem n_caF_nms_plg : (("_numbers" : Str) = "_pledges") = False := eq_false (by decide +kernel)
theorem n_caF_key_me : (("_key" : Str) = "me") = False := eq_false (by decide +kernel)
theorem n_caF_key_stt : (("_key" : Str) = "state") = False := eq_false (by decide +kernel)
theorem n_caF_key_sits : (("_key" : Str) = "sits") = False := eq_false (by decide +kernel)
theorem n_caF_key_rnd : (("_key" : Str) = "round") = False := eq_false (by decide +kernel)
theorem n_caF_key_ros : (("_key" : Str) = "_roster") = False := eq_false (by decide +kernel)
theorem n_caF_key_nms : (("_key" : Str) = "_numbers") = False := eq_false (by decide +kernel)
theorem n_caF_key_bgn : (("_key" : Str) = "_begun") = False := eq_false (by decide +kernel)
theorem n_caF_key_plg : (("_key" : Str) = "_pledges") = False := eq_false (by decide +kernel)
theorem n_caF_bgn_me : (("_begun" : Str) = "me") = False := eq_false (by decide +kernel)
theorem n_caF_bgn_stt : (("_begun" : Str) = "state") = False := eq_false (by decide +kernel)
theorem n_caF_bgn_sits : (("_begun" : Str) = "sits") = False := eq_false (by decide +kernel)
theorem n_caF_bgn_rnd : (("_begun" : Str) = "round") = False := eq_false (by decide +kernel)
theorem n_caF_bgn_ros : (("_begun" : Str) = "_roster") = False := eq_false (by decide +kernel)
theorem n_caF_bgn_nms : (("_begun" : Str) = "_numbers") = False := eq_false (by decide +kernel)
theorem n_caF_bgn_key : (("_begun" : Str) = "_key") = False := eq_false (by decide +kernel)
theorem n_caF_bgn_plg : (("_begun" : Str) = "_pledges") = False := eq_false (by decide +kernel)
theorem n_caF_plg_me : (("_pledges" : Str) = "me") = False := eq_false (by decide +kernel)
theorem n_caF_plg_stt : (("_pledges" : Str) = "state") = False := eq_false (by decide +kernel)
theorem n_caF_plg_sits : (("_pledges" : Str) = "sits") = False := eq_false (by decide +kernel)
theorem n_caF_plg_rnd : (("_pledges" : Str) = "round") = False := eq_false (by decide +kernel)
theorem n_caF_plg_ros : (("_pledges" : Str) = "_roster") = False := eq_false (by decide +kernel)
theorem n_caF_plg_nms : (("_pledges" : Str) = "_numbers") = False := eq_false (by decide +kernel)
theorem n_caF_plg_key : (("_pledges" : Str) = "_key") = False := eq_false (by decide +kernel)
theorem n_caF_plg_bgn : (("_pledges" : Str) = "_begun") = False := eq_false (by decide +kernel)
def caF (me : Int) (stt : Str) (sits : Bool) (rnd : Int) (ros : Addr) (nms : Addr) (key : V) (bgn : V) (plg : Addr) : List (Str × V) := [("me", .int me), ("state", .str stt), ("sits", .bl sits), ("round", .int rnd), ("_roster", .ref ros), ("_numbers", .ref nms), ("_key", key), ("_begun", bgn), ("_pledges", .ref plg)]
theorem caF_me (me : Int) (stt : Str) (sits : Bool) (rnd : Int) (ros : Addr) (nms : Addr) (key : V) (bgn : V) (plg : Addr) : (caF me stt sits rnd ros nms key bgn plg).lookup ("me" : Str) = some (.int me) := by unfold caF; rw [List.lookup_cons_self]
theorem caF_put_me (me : Int) (stt : Str) (sits : Bool) (rnd : Int) (ros : Addr) (nms : Addr) (key : V) (bgn : V) (plg : Addr) (me' : Int) : putF "me" (.int me') (caF me stt sits rnd ros nms key bgn plg) = caF me' stt sits rnd ros nms key bgn plg := by
  simp only [caF, putF, if_false, if_true]
theorem caF_stt (me : Int) (stt : Str) (sits : Bool) (rnd : Int) (ros : Addr) (nms : Addr) (key : V) (bgn : V) (plg : Addr) : (caF me stt sits rnd ros nms key bgn plg).lookup ("state" : Str) = some (.str stt) := by unfold caF; rw [List.lookup_cons, beq_false_of_ne (fun z => by rw [n_caF_stt_me] at z; exact z)]; simp only []; rw [List.lookup_cons_self]
theorem caF_put_stt (me : Int) (stt : Str) (sits : Bool) (rnd : Int) (ros : Addr) (nms : Addr) (key : V) (bgn : V) (plg : Addr) (stt' : Str) : putF "state" (.str stt') (caF me stt sits rnd ros nms key bgn plg) = caF me stt' sits rnd ros nms key bgn plg := by
  simp only [caF, putF, n_caF_me_stt, if_false, if_true]
theorem caF_sits (me : Int) (stt : Str) (sits : Bool) (rnd : Int) (ros : Addr) (nms : Addr) (key : V) (bgn : V) (plg : Addr) : (caF me stt sits rnd ros nms key bgn plg).lookup ("sits" : Str) = some (.bl sits) := by unfold caF; rw [List.lookup_cons, beq_false_of_ne (fun z => by rw [n_caF_sits_me] at z; exact z)]; simp only []; rw [List.lookup_cons, beq_false_of_ne (fun z => by rw [n_caF_sits_stt] at z; exact z)]; simp only []; rw [List.lookup_cons_self]
theorem caF_put_sits (me : Int) (stt : Str) (sits : Bool) (rnd : Int) (ros : Addr) (nms : Addr) (key : V) (bgn : V) (plg : Addr) (sits' : Bool) : putF "sits" (.bl sits') (caF me stt sits rnd ros nms key bgn plg) = caF me stt sits' rnd ros nms key bgn plg := by
  simp only [caF, putF, n_caF_me_sits, n_caF_stt_sits, if_false, if_true]
theorem caF_rnd (me : Int) (stt : Str) (sits : Bool) (rnd : Int) (ros : Addr) (nms : Addr) (key : V) (bgn : V) (plg : Addr) : (caF me stt sits rnd ros nms key bgn plg).lookup ("round" : Str) = some (.int rnd) := by unfold caF; rw [List.lookup_cons, beq_false_of_ne (fun z => by rw [n_caF_rnd_me] at z; exact z)]; simp only []; rw [List.lookup_cons, beq_false_of_ne (fun z => by rw [n_caF_rnd_stt] at z; exact z)]; simp only []; rw [List.lookup_cons, beq_false_of_ne (fun z => by rw [n_caF_rnd_sits] at z; exact z)]; simp only []; rw [List.lookup_cons_self]
theorem caF_put_rnd (me : Int) (stt : Str) (sits : Bool) (rnd : Int) (ros : Addr) (nms : Addr) (key : V) (bgn : V) (plg : Addr) (rnd' : Int) : putF "round" (.int rnd') (caF me stt sits rnd ros nms key bgn plg) = caF me stt sits rnd' ros nms key bgn plg := by
  simp only [caF, putF, n_caF_me_rnd, n_caF_stt_rnd, n_caF_sits_rnd, if_false, if_true]
theorem caF_ros (me : Int) (stt : Str) (sits : Bool) (rnd : Int) (ros : Addr) (nms : Addr) (key : V) (bgn : V) (plg : Addr) : (caF me stt sits rnd ros nms key bgn plg).lookup ("_roster" : Str) = some (.ref ros) := by unfold caF; rw [List.lookup_cons, beq_false_of_ne (fun z => by rw [n_caF_ros_me] at z; exact z)]; simp only []; rw [List.lookup_cons, beq_false_of_ne (fun z => by rw [n_caF_ros_stt] at z; exact z)]; simp only []; rw [List.lookup_cons, beq_false_of_ne (fun z => by rw [n_caF_ros_sits] at z; exact z)]; simp only []; rw [List.lookup_cons, beq_false_of_ne (fun z => by rw [n_caF_ros_rnd] at z; exact z)]; simp only []; rw [List.lookup_cons_self]
theorem caF_put_ros (me : Int) (stt : Str) (sits : Bool) (rnd : Int) (ros : Addr) (nms : Addr) (key : V) (bgn : V) (plg : Addr) (ros' : Addr) : putF "_roster" (.ref ros') (caF me stt sits rnd ros nms key bgn plg) = caF me stt sits rnd ros' nms key bgn plg := by
  simp only [caF, putF, n_caF_me_ros, n_caF_stt_ros, n_caF_sits_ros, n_caF_rnd_ros, if_false, if_true]
theorem caF_nms (me : Int) (stt : Str) (sits : Bool) (rnd : Int) (ros : Addr) (nms : Addr) (key : V) (bgn : V) (plg : Addr) : (caF me stt sits rnd ros nms key bgn plg).lookup ("_numbers" : Str) = some (.ref nms) := by unfold caF; rw [List.lookup_cons, beq_false_of_ne (fun z => by rw [n_caF_nms_me] at z; exact z)]; simp only []; rw [List.lookup_cons, beq_false_of_ne (fun z => by rw [n_caF_nms_stt] at z; exact z)]; simp only []; rw [List.lookup_cons, beq_false_of_ne (fun z => by rw [n_caF_nms_sits] at z; exact z)]; simp only []; rw [List.lookup_cons, beq_false_of_ne (fun z => by rw [n_caF_nms_rnd] at z; exact z)]; simp only []; rw [List.lookup_cons, beq_false_of_ne (fun z => by rw [n_caF_nms_ros] at z; exact z)]; simp only []; rw [List.lookup_cons_self]
theorem caF_put_nms (me : Int) (stt : Str) (sits : Bool) (rnd : Int) (ros : Addr) (nms : Addr) (key : V) (bgn : V) (plg : Addr) (nms' : Addr) : putF "_numbers" (.ref nms') (caF me stt sits rnd ros nms key bgn plg) = caF me stt sits rnd ros nms' key bgn plg := by
  simp only [caF, putF, n_caF_me_nms, n_caF_stt_nms, n_caF_sits_nms, n_caF_rnd_nms, n_caF_ros_nms, if_false, if_true]
theorem caF_key (me : Int) (stt : Str) (sits : Bool) (rnd : Int) (ros : Addr) (nms : Addr) (key : V) (bgn : V) (plg : Addr) : (caF me stt sits rnd ros nms key bgn plg).lookup ("_key" : Str) = some (key) := by unfold caF; rw [List.lookup_cons, beq_false_of_ne (fun z => by rw [n_caF_key_me] at z; exact z)]; simp only []; rw [List.lookup_cons, beq_false_of_ne (fun z => by rw [n_caF_key_stt] at z; exact z)]; simp only []; rw [List.lookup_cons, beq_false_of_ne (fun z => by rw [n_caF_key_sits] at z; exact z)]; simp only []; rw [List.lookup_cons, beq_false_of_ne (fun z => by rw [n_caF_key_rnd] at z; exact z)]; simp only []; rw [List.lookup_cons, beq_false_of_ne (fun z => by rw [n_caF_key_ros] at z; exact z)]; simp only []; rw [List.lookup_cons, beq_false_of_ne (fun z => by rw [n_caF_key_nms] at z; exact z)]; simp only []; rw [List.lookup_cons_self]
theorem caF_put_key (me : Int) (stt : Str) (sits : Bool) (rnd : Int) (ros : Addr) (nms : Addr) (key : V) (bgn : V) (plg : Addr) (key' : V) : putF "_key" (key') (caF me stt sits rnd ros nms key bgn plg) = caF me stt sits rnd ros nms key' bgn plg := by
  simp only [caF, putF, n_caF_me_key, n_caF_stt_key, n_caF_sits_key, n_caF_rnd_key, n_caF_ros_key, n_caF_nms_key, if_false, if_true]
theorem caF_bgn (me : Int) (stt : Str) (sits : Bool) (rnd : Int) (ros : Addr) (nms : Addr) (key : V) (bgn : V) (plg : Addr) : (caF me stt sits rnd ros nms key bgn plg).lookup ("_begun" : Str) = some (bgn) := by unfold caF; rw [List.lookup_cons, beq_false_of_ne (fun z => by rw [n_caF_bgn_me] at z; exact z)]; simp only []; rw [List.lookup_cons, beq_false_of_ne (fun z => by rw [n_caF_bgn_stt] at z; exact z)]; simp only []; rw [List.lookup_cons, beq_false_of_ne (fun z => by rw [n_caF_bgn_sits] at z; exact z)]; simp only []; rw [List.lookup_cons, beq_false_of_ne (fun z => by rw [n_caF_bgn_rnd] at z; exact z)]; simp only []; rw [List.lookup_cons, beq_false_of_ne (fun z => by rw [n_caF_bgn_ros] at z; exact z)]; simp only []; rw [List.lookup_cons, beq_false_of_ne (fun z => by rw [n_caF_bgn_nms] at z; exact z)]; simp only []; rw [List.lookup_cons, beq_false_of_ne (fun z => by rw [n_caF_bgn_key] at z; exact z)]; simp only []; rw [List.lookup_cons_self]
theorem caF_put_bgn (me : Int) (stt : Str) (sits : Bool) (rnd : Int) (ros : Addr) (nms : Addr) (key : V) (bgn : V) (plg : Addr) (bgn' : V) : putF "_begun" (bgn') (caF me stt sits rnd ros nms key bgn plg) = caF me stt sits rnd ros nms key bgn' plg := by
  simp only [caF, putF, n_caF_me_bgn, n_caF_stt_bgn, n_caF_sits_bgn, n_caF_rnd_bgn, n_caF_ros_bgn, n_caF_nms_bgn, n_caF_key_bgn, if_false, if_true]
theorem caF_plg (me : Int) (stt : Str) (sits : Bool) (rnd : Int) (ros : Addr) (nms : Addr) (key : V) (bgn : V) (plg : Addr) : (caF me stt sits rnd ros nms key bgn plg).lookup ("_pledges" : Str) = some (.ref plg) := by unfold caF; rw [List.lookup_cons, beq_false_of_ne (fun z => by rw [n_caF_plg_me] at z; exact z)]; simp only []; rw [List.lookup_cons, beq_false_of_ne (fun z => by rw [n_caF_plg_stt] at z; exact z)]; simp only []; rw [List.lookup_cons, beq_false_of_ne (fun z => by rw [n_caF_plg_sits] at z; exact z)]; simp only []; rw [List.lookup_cons, beq_false_of_ne (fun z => by rw [n_caF_plg_rnd] at z; exact z)]; simp only []; rw [List.lookup_cons, beq_false_of_ne (fun z => by rw [n_caF_plg_ros] at z; exact z)]; simp only []; rw [List.lookup_cons, beq_false_of_ne (fun z => by rw [n_caF_plg_nms] at z; exact z)]; simp only []; rw [List.lookup_cons, beq_false_of_ne (fun z => by rw [n_caF_plg_key] at z; exact z)]; simp only []; rw [List.lookup_cons, beq_false_of_ne (fun z => by rw [n_caF_plg_bgn] at z; exact z)]; simp only []; rw [List.lookup_cons_self]
theorem caF_put_plg (me : Int) (stt : Str) (sits : Bool) (rnd : Int) (ros : Addr) (nms : Addr) (key : V) (bgn : V) (plg : Addr) (plg' : Addr) : putF "_pledges" (.ref plg') (caF me stt sits rnd ros nms key bgn plg) = caF me stt sits rnd ros nms key bgn plg' := by
  simp only [caF, putF, n_caF_me_plg, n_caF_stt_plg, n_caF_sits_plg, n_caF_rnd_plg, n_caF_ros_plg, n_caF_nms_plg, n_caF_key_plg, n_caF_bgn_plg, if_false, if_true]
theorem caF_no (me : Int) (stt : Str) (sits : Bool) (rnd : Int) (ros : Addr) (nms : Addr) (key : V) (bgn : V) (plg : Addr) {x : Str} (h0 : x ≠ ("me" : Str)) (h1 : x ≠ ("state" : Str)) (h2 : x ≠ ("sits" : Str)) (h3 : x ≠ ("round" : Str)) (h4 : x ≠ ("_roster" : Str)) (h5 : x ≠ ("_numbers" : Str)) (h6 : x ≠ ("_key" : Str)) (h7 : x ≠ ("_begun" : Str)) (h8 : x ≠ ("_pledges" : Str)) : (caF me stt sits rnd ros nms key bgn plg).lookup x = none := by
  unfold caF
  rw [List.lookup_cons, beq_false_of_ne h0]; simp only []
  rw [List.lookup_cons, beq_false_of_ne h1]; simp only []
  rw [List.lookup_cons, beq_false_of_ne h2]; simp only []
  rw [List.lookup_cons, beq_false_of_ne h3]; simp only []
  rw [List.lookup_cons, beq_false_of_ne h4]; simp only []
  rw [List.lookup_cons, beq_false_of_ne h5]; simp only []
  rw [List.lookup_cons, beq_false_of_ne h6]; simp only []
  rw [List.lookup_cons, beq_false_of_ne h7]; simp only []
  rw [List.lookup_cons, beq_false_of_ne h8]; rfl
theorem caF_made (me : Int) (stt : Str) (sits : Bool) (rnd : Int) (ros : Addr) (nms : Addr) (key : V) (bgn : V) (plg : Addr) : putF "_pledges" (.ref plg) (putF "_begun" (bgn) (putF "_key" (key) (putF "_numbers" (.ref nms) (putF "_roster" (.ref ros) (putF "round" (.int rnd) (putF "sits" (.bl sits) (putF "state" (.str stt) (putF "me" (.int me) ([] )))))))))= caF me stt sits rnd ros nms key bgn plg := by
  simp only [putF, caF, n_caF_me_stt, n_caF_me_sits, n_caF_stt_sits, n_caF_me_rnd, n_caF_stt_rnd, n_caF_sits_rnd, n_caF_me_ros, n_caF_stt_ros, n_caF_sits_ros, n_caF_rnd_ros, n_caF_me_nms, n_caF_stt_nms, n_caF_sits_nms, n_caF_rnd_nms, n_caF_ros_nms, n_caF_me_key, n_caF_stt_key, n_caF_sits_key, n_caF_rnd_key, n_caF_ros_key, n_caF_nms_key, n_caF_me_bgn, n_caF_stt_bgn, n_caF_sits_bgn, n_caF_rnd_bgn, n_caF_ros_bgn, n_caF_nms_bgn, n_caF_key_bgn, n_caF_me_plg, n_caF_stt_plg, n_caF_sits_plg, n_caF_rnd_plg, n_caF_ros_plg, n_caF_nms_plg, n_caF_key_plg, n_caF_bgn_plg, if_false, if_true]
end G0
namespace G0
open PySem PySem.Spec PyProof.Rows L2
theorem n_keF_rnd_srv : (("round" : Str) = "_served") = False := eq_false (by decide +kernel)
theorem n_keF_rnd_lin : (("round" : Str) = "_line") = False := eq_false (by decide +kernel)
theorem n_keF_srv_rnd : (("_served" : Str) = "round") = False := eq_false (by decide +kernel)
theorem n_keF_srv_lin : (("_served" : Str) = "_line") = False := eq_false (by decide +kernel)
theorem n_keF_lin_rnd : (("_line" : Str) = "round") = False := eq_false (by decide +kernel)
theorem n_keF_lin_srv : (("_line" : Str) = "_served") = False := eq_false (by decide +kernel)
def keF (rnd : Int) (srv : Addr) (lin : Addr) : List (Str × V) := [("round", .int rnd), ("_served", .ref srv), ("_line", .ref lin)]
theorem keF_rnd (rnd : Int) (srv : Addr) (lin : Addr) : (keF rnd srv lin).lookup ("round" : Str) = some (.int rnd) := by unfold keF; rw [List.lookup_cons_self]
theorem keF_put_rnd (rnd : Int) (srv : Addr) (lin : Addr) (rnd' : Int) : putF "round" (.int rnd') (keF rnd srv lin) = keF rnd' srv lin := by
  simp only [keF, putF, if_false, if_true]
theorem keF_srv (rnd : Int) (srv : Addr) (lin : Addr) : (keF rnd srv lin).lookup ("_served" : Str) = some (.ref srv) := by unfold keF; rw [List.lookup_cons, beq_false_of_ne (fun z => by rw [n_keF_srv_rnd] at z; exact z)]; simp only []; rw [List.lookup_cons_self]
theorem keF_put_srv (rnd : Int) (srv : Addr) (lin : Addr) (srv' : Addr) : putF "_served" (.ref srv') (keF rnd srv lin) = keF rnd srv' lin := by
  simp only [keF, putF, n_keF_rnd_srv, if_false, if_true]
theorem keF_lin (rnd : Int) (srv : Addr) (lin : Addr) : (keF rnd srv lin).lookup ("_line" : Str) = some (.ref lin) := by unfold keF; rw [List.lookup_cons, beq_false_of_ne (fun z => by rw [n_keF_lin_rnd] at z; exact z)]; simp only []; rw [List.lookup_cons, beq_false_of_ne (fun z => by rw [n_keF_lin_srv] at z; exact z)]; simp only []; rw [List.lookup_cons_self]
theorem keF_put_lin (rnd : Int) (srv : Addr) (lin : Addr) (lin' : Addr) : putF "_line" (.ref lin') (keF rnd srv lin) = keF rnd srv lin' := by
  simp only [keF, putF, n_keF_rnd_lin, n_keF_srv_lin, if_false, if_true]
theorem keF_no (rnd : Int) (srv : Addr) (lin : Addr) {x : Str} (h0 : x ≠ ("round" : Str)) (h1 : x ≠ ("_served" : Str)) (h2 : x ≠ ("_line" : Str)) : (keF rnd srv lin).lookup x = none := by
  unfold keF
  rw [List.lookup_cons, beq_false_of_ne h0]; simp only []
  rw [List.lookup_cons, beq_false_of_ne h1]; simp only []
  rw [List.lookup_cons, beq_false_of_ne h2]; rfl
theorem keF_made (rnd : Int) (srv : Addr) (lin : Addr) : putF "_line" (.ref lin) (putF "_served" (.ref srv) (putF "round" (.int rnd) ([] )))= keF rnd srv lin := by
  simp only [putF, keF, n_keF_rnd_srv, n_keF_rnd_lin, n_keF_srv_lin, if_false, if_true]
end G0
namespace G0
open PySem PySem.Spec PyProof.Rows L2
/-! ### comprehensions over ints, with a test: what stays, what is made of it -/
theorem ints_at' {ns : List Int} {i : Nat} {x : V} (h : (ns.map V.int)[i]? = some x) : ∃ k, ns[i]? = some k ∧ x = V.int k := by
  rw [List.getElem?_map] at h
  cases e : ns[i]? with
  | none => rw [e] at h; cases h
  | some k => rw [e] at h; exact ⟨k, rfl, (Option.some.inj h).symm⟩
theorem filt_next {α : Type} {ns : List α} {i : Nat} {k : α} (p : α → Bool) (h : ns[i]? = some k) : (ns.take (i + 1)).filter p = (ns.take i).filter p ++ (if p k = true then [k] else []) := by
  rw [List.take_succ, h, List.filter_append]
  cases z : p k <;> simp [z]
theorem tst {b c : Bool} {te : TE} {σ : L2.St} {G : Hp} {Y : VK} {B : Hp → Prop} {v : V} (e : b = c) (go : Y v G → te σ G Y) (h : if c = true then Y v G else B G) : if b = true then te σ G Y else B G := by
  rw [e]
  cases c with
  | true => exact iteT (go ((if_pos rfl).mp h))
  | false => exact iteF (by simpa using h)
section
variable {K : PySem.W.Frag} {a : Addr} {ns : List Int} {g : TG} {tt : TT} {te : TE} {vs : List Nat} {σ : L2.St} {H1 : Hp} {D : Addr} {Qd : Hp → Prop}
theorem lc_filtI (p : Int → Bool) (few : ns.length ≤ 10000) (hD : H1 D = none) (hs : SqL K H1 a (ns.map V.int))
    (step : ∀ (i : Nat) (x : Int) (G : Hp) (Y : VK) (B : Hp → Prop), ns[i]? = some x → Same H1 G → (if p x = true then Y (.int x) G else B G) → g (.int x) (wipe σ vs) G fun σ2 H2 => wipe σ2 vs = wipe σ vs ∧ tt σ2 H2 fun b H3 => if b = true then te σ2 H3 Y else B H3)
    (fin : ∀ G, Same H1 G → G D = some (.lst ((ns.filter p).map V.int)) → Qd G) :
    ∃ W : Nat → Nat → Hp → Prop, (∃ m, W 0 m (upd H1 D (.lst []))) ∧ ∀ i m G, W i m G →
      ((Itl K a).stop i G ∧ Qd G) ∨ ((Itl K a).go i G ∧ ∃ Nx : Hp → Prop, (∀ G', Nx G' → ∃ m', m' < m ∧ W (i + 1) m' G') ∧ ∀ x G', (Itl K a).yld i G x G' → g x (wipe σ vs) G' fun σ2 H2 => wipe σ2 vs = wipe σ vs ∧ tt σ2 H2 fun b H3 =>
        if b = true then te σ2 H3 fun y H4 => ∃ acc, H4 D = some (.lst acc) ∧ acc.length < sizeLine ∧ Nx (upd H4 D (.lst (acc ++ [y]))) else Nx H3) := by
  refine lc_list (K := K) (a := a) (xs := ns.map V.int) (fun i G => Same H1 G ∧ G D = some (.lst (((ns.take i).filter p).map V.int))) ⟨same_upd hD, upd_same⟩ (fun i G _ h => h.1.seq hs) ?_ ?_
  · rintro i x G hx ⟨sG, kD⟩
    obtain ⟨k, hk, rfl⟩ := ints_at' hx
    have li := (List.getElem?_eq_some_iff.mp hk).1
    refine step i k G _ _ hk sG ?_
    rw [filt_next p hk]
    by_cases c : p k = true
    · rw [if_pos c, if_pos c]
      refine ⟨_, kD, ?_, fun b o e => ?_, ?_⟩
      · rw [List.length_map]
        exact Nat.lt_of_lt_of_le (show _ < 20000 from Nat.lt_of_le_of_lt (List.length_filter_le ..) (by rw [List.length_take]; omega)) (by decide)
      · rw [upd_ne (ne_of_none e hD)]
        exact sG _ _ e
      · rw [List.map_append]
        exact upd_same
    · rw [if_neg c, if_neg c, List.append_nil]
      exact ⟨sG, kD⟩
  · rintro G ⟨sG, kD⟩
    rw [List.length_map, List.take_length] at kD
    exact fin G sG kD
theorem lc_dataI (p : Int → Bool) (f : Int → PyData) (few : ns.length ≤ 10000) (nl : ∀ x ∈ ns, noL (f x) = true) (hD : H1 D = none) (hs : SqL K H1 a (ns.map V.int))
    (step : ∀ (i : Nat) (x : Int) (G : Hp) (Y : VK) (B : Hp → Prop), ns[i]? = some x → Same H1 G → (p x = true → ∀ v G', Same G G' → Dp K G' v (f x) → Y v G') → (p x = false → B G) → g (.int x) (wipe σ vs) G fun σ2 H2 => wipe σ2 vs = wipe σ vs ∧ tt σ2 H2 fun b H3 => if b = true then te σ2 H3 Y else B H3)
    (fin : ∀ G zs, Same H1 G → G D = some (.lst zs) → DpAll K G zs ((ns.filter p).map f) → Qd G) :
    ∃ W : Nat → Nat → Hp → Prop, (∃ m, W 0 m (upd H1 D (.lst []))) ∧ ∀ i m G, W i m G →
      ((Itl K a).stop i G ∧ Qd G) ∨ ((Itl K a).go i G ∧ ∃ Nx : Hp → Prop, (∀ G', Nx G' → ∃ m', m' < m ∧ W (i + 1) m' G') ∧ ∀ x G', (Itl K a).yld i G x G' → g x (wipe σ vs) G' fun σ2 H2 => wipe σ2 vs = wipe σ vs ∧ tt σ2 H2 fun b H3 =>
        if b = true then te σ2 H3 fun y H4 => ∃ acc, H4 D = some (.lst acc) ∧ acc.length < sizeLine ∧ Nx (upd H4 D (.lst (acc ++ [y]))) else Nx H3) := by
  refine lc_list (K := K) (a := a) (xs := ns.map V.int) (fun i G => Same H1 G ∧ ∃ zs, zs.length ≤ i ∧ G D = some (.lst zs) ∧ DpAll K G zs (((ns.take i).filter p).map f)) ⟨same_upd hD, [], Nat.le_refl _, upd_same, .nil⟩ (fun i G _ h => h.1.seq hs) ?_ ?_
  · rintro i x G hx ⟨sG, zs, lz, kD, dz⟩
    obtain ⟨k, hk, rfl⟩ := ints_at' hx
    have li := (List.getElem?_eq_some_iff.mp hk).1
    have nls : noLs (((ns.take i).filter p).map f) = true := noLs_of fun d hd => by
      obtain ⟨y, hy, rfl⟩ := List.mem_map.mp hd
      exact nl y (List.mem_of_mem_take (List.mem_filter.mp hy).1)
    refine step i k G _ _ hk sG (fun c v G' s' dv => ?_) (fun c => ?_)
    · have kD' := s' _ _ kD
      refine ⟨_, kD', Nat.lt_of_lt_of_le (show zs.length < 20000 by omega) (by decide), fun b o e => ?_, zs ++ [v], by rw [List.length_append, List.length_singleton]; omega, upd_same, ?_⟩
      · rw [upd_ne (ne_of_none e hD)]
        exact s' _ _ (sG _ _ e)
      · rw [filt_next p hk, if_pos c, List.map_append]
        exact dps_app (dps_chg ⟨_, kD'⟩ Chg.self _ _ nls (dps_same s' _ _ dz)) (.cons (dp_chg ⟨_, kD'⟩ Chg.self _ _ (nl k (List.mem_of_getElem? hk)) dv) .nil)
    · refine ⟨sG, zs, by omega, kD, ?_⟩
      rw [filt_next p hk, if_neg (by simp [c]), List.append_nil]
      exact dz
  · rintro G ⟨sG, zs, lz, kD, dz⟩
    rw [List.length_map, List.take_length] at dz
    exact fin G zs sG kD dz
end

end G0
/-! A def with the cell __class__: its first statement says super().__init__(..). -/
namespace G0
open PySem PySem.Spec PyProof.Rows L2 NdefX
abbrev nfS (name qual : Str) (params : Arguments) (body : List Stmt) (scope : Scope) (cc cda : Addr) : NF := ⟨name, qual, params, body, scope, [("__class__", cc)], cda⟩
/-- a statement whose code must be told -/
def P1 (X : Cx) (body : List Stmt) (st : Stmt) (t : TS) : Prop :=
  ∀ (pins : List (Addr × Obj)) (s : Shared) (σ : L2.St) (H : Hp) (D : Ends), Inv X pins σ H s → t D σ H →
    _root_.PySem.wpAt (model X.prog X.w) X.A (.func body X.env) (exec st X.env) (SP X pins D) X.xe s
theorem fnS_of {CX : CXT} {P : Program} {w : World} {K : PySem.W.Frag} {mg : Str → Option Value} {base : Heap} {k : Nat}
    {f cc cda : Addr} {name qual : Str} {params : Arguments} {st : Stmt} {body : List Stmt} {scope : Scope} {dV kV doc pm ct oc cl : Value} {v : Option Value}
    {an od cld : Option Addr} {osl csl : Array (Option Value)} {N ps : List Str} {sp : Sp}
    (lk : K.lookup f = some ⟨oc, od, .func (PySem.W.ksFn name qual params (st :: body) scope dV kV doc pm an (.ref cda) ct cc), osl⟩)
    (coded : PySem.W.codeIn K (.ref cda) qual = true) (lc : K.lookup cc = some ⟨cl, cld, .cell v, csl⟩) (S : NScope N ps ["__class__"] scope)
    (len : ∀ zs G R W, sp zs G R W → zs.length = ps.length)
    (inner : ∀ (A : Around) (outer : List Env) (s : Shared) (H : Hp) (vs : List V) (Q : VK) (E : XK),
      Room k (A.deeper (envF (nfS name qual params (st :: body) scope cc cda) f s.heap.objs.size)) → sp vs H Q E →
      ∃ t1 t2, P1 (ncx CX P w K mg base N (nfS name qual params (st :: body) scope cc cda) f A outer s H E) (st :: body) st t1 ∧
        PSs (ncx CX P w K mg base N (nfS name qual params (st :: body) scope cc cda) f A outer s H E) body t2 ∧
        t1 { nx := fun σ' H' => t2 { nx := fun _ H' => Q .non H', rt := Q } σ' H', rt := Q } (startF N vs [none]) H) :
    FnOk P w K mg base CX (k + 1) f (PySem.W.ksFn name qual params (st :: body) scope dV kV doc pm an (.ref cda) ct cc) ps sp := by
  refine ⟨len, fun A outer s H given us vs Q E hr e0 bd r hsp => ?_⟩
  have hl := len _ _ _ _ hsp
  have KX : K.In s.heap := e0.mod.kin.keeps fun b o z => (e0.bs b o z).1
  have lim : s.heap.NoLimit := e0.mod.nolimit.keeps fun b o e => (e0.bs b o e).1
  have CA : CellsAt [("__class__", cc)] ["__class__"] [none] s.heap H := {
    len := rfl
    all := fun y c e => by
      have : c = cc := by
        simp only [List.lookup] at e
        split at e
        · exact (Option.some.inj e).symm
        · cases e
      subst this
      exact ⟨(e0.bs _ _ (e0.mod.kin _ _ lc)).2, v, ⟨_, KX _ _ lc, rfl⟩⟩
    inj := fun x y c h1 h2 => by
      have q : ∀ z c', List.lookup z [(("__class__" : Str), cc)] = some c' → z = "__class__" := fun z c' e => by
        simp only [List.lookup] at e
        split at e
        · rename_i h
          exact beq_iff_eq.mp h
        · cases e
      rw [q _ _ h1, q _ _ h2]
    has := fun i y e => by
      match i, e with
      | 0, e =>
        cases e
        exact ⟨cc, rfl, fun v h => by cases h⟩
      | i + 1, e => cases e }
  refine codeAny_call_function hr.depth (KX _ _ lk) rfl S.co S.gen rfl (PySem.W.codeRec_of KX coded) (bd _ _ _ _ ?_)
  refine wpAny_newFunctionEnv S.nocell (fun ⟨n, _⟩ hy => S.par n (List.of_mem_zip hy).1) (fun h₁ hns hsb => ⟨lim.fresh _ hsb, ?_⟩) S.kind
  show codeAny _ _ (.func (st :: body) (envF (nfS name qual params (st :: body) scope cc cda) f s.heap.objs.size)) _ _
  refine PySem.ks_codeAny_funcAt ?_
  have kp : ∀ b o, s.heap.get? b = some o → h₁.get? b = some o := fun b o e => hsb.extBut b o (Nat.ne_of_lt (Heap.lt_size e)) (Heap.get?_push_of_some _ e)
  obtain ⟨t1, t2, h1, h2, hq⟩ := inner A outer s H vs Q E (hr.deeper _) hsp
  have I : Inv (ncx CX P w K mg base N (nfS name qual params (st :: body) scope cc cda) f A outer s H E) [] (startF N vs [none]) H { s with heap := h₁, toks := s.toks + (ps.zip us).length } := inv_startN S hr.hd e0 hl r CA hns kp
  have fin : ∀ {σ' : L2.St} {H' : Hp} {v : V} {u : Value} {s' : Shared}, Inv (ncx CX P w K mg base N (nfS name qual params (st :: body) scope cc cda) f A outer s H E) [] σ' H' s' → L2.RelV v u → Q v H' → CE outer P w H s Q u s' :=
    fun {σ' H' v u s'} J rv q => ⟨v, H', J.os, J.bare, J.base, J.hok, rv, q⟩
  refine PySem.ks_wpAt_execs_cons (PySem.ks_wpAt_mono (h1 [] _ (startF N vs [none]) H _ I hq) (fun fl s' hs => ?_) fun e s' hs => hs)
  match fl, hs with
  | .ret u, ⟨v, σ', H', J, rv, q⟩ => exact fin J rv q
  | .brk, ⟨_, _, _, q⟩ => exact False.elim q
  | .cont, ⟨_, _, _, q⟩ => exact False.elim q
  | .next, ⟨σ', H', J, q⟩ =>
    refine _root_.PySem.wpAt_of_wpAny (wpAny_mono (h2.run [] _ σ' H' _ J q) (fun fl s' hs => ?_) fun e s' hs => hs)
    match fl, hs with
    | .ret u, ⟨v, σ', H', J, rv, q⟩ => exact fin J rv q
    | .next, ⟨σ', H', J, q⟩ => exact fin (v := V.non) (u := Value.none) J rfl q
    | .brk, ⟨_, _, _, q⟩ => exact False.elim q
    | .cont, ⟨_, _, _, q⟩ => exact False.elim q
end G0
namespace G0
open PySem PySem.Spec PyProof.Rows L2 NdefX
/-- what super() without arguments asks of the text and the written part -/
structure SupF (P : Program) (K : PySem.W.Frag) (N : List Str) (f cc cda D : Addr) (fd : FuncData) (params : Arguments) (scope : Scope) : Prop where
  fun_ : ∃ oc od osl, K.lookup f = some ⟨oc, od, .func fd, osl⟩ ∧ fd.params = params
  arg : ∃ ar : Arg, (params.posonlyargs ++ params.args).head? = some ar ∧ N[0]? = some ar.arg ∧ scope.names.lookup ar.arg = some .local
  code : ∃ ccl cdd vs ccs file tf, K.lookup cda = some ⟨ccl, cdd, .fields vs, ccs⟩ ∧ vs[2]? = some (.str file tf) ∧ ((P.main.file : Str) == file) = true
  cell : ∃ cl cld csl, K.lookup cc = some ⟨cl, cld, .cell (some (.ref D)), csl⟩
  cls : ∃ cdD, PySem.W.clsIn K D = some cdD
  miss : PySem.W.nsIn K mainGlobals "super" = some none
  sup : scope.names.lookup ("super" : Str) = some .globalImplicit
  own : scope.names.lookup ("__class__" : Str) = some .free
  kind : scope.kind = .function
  top : (P.main.scope.names.lookup ("super" : Str)).isSome = false
  any_ : PySem.W.nsIn K cStatics "thirdparty.any" = some none
/-- super() is made: an object of its own, held by a pin -/
theorem sup_node {CX : CXT} {P : Program} {w : World} {K : PySem.W.Frag} {mg : Str → Option Value} {base : Heap} {N : List Str}
    {f cc cda D a C : Addr} {name qual : Str} {params : Arguments} {st : List Stmt} {scope : Scope} {fd : FuncData}
    {A : Around} {outer : List Env} {s0 : Shared} {H0 : Hp} {E : XK} {pins : List (Addr × Obj)} {s : Shared} {σ : L2.St} {H : Hp} {p0 p1 : Pos} {attr : Str} {whole : Sem Value} {Q : Value → Shared → Prop} {EE : Value → Shared → Prop} {ox : Obj} {odx : Option Obj}
    (F : SupF P K N f cc cda D fd params scope)
    (I : Inv (ncx CX P w K mg base N (nfS name qual params st scope cc cda) f A outer s0 H0 E) pins σ H s) (hs : σ[0]? = some (some (.ref a)))
    (J : PySem.W.InstAt s.heap a ox C odx) (hsub : PySem.W.mroIn K C (.ref D) = some true) (hat : (attr == ("__class__" : Str)) = false)
    (h : ∀ h', (∀ b o, s.heap.get? b = some o → h'.get? b = some o) → h'.get? s.heap.objs.size = some (PySem.W.ks_superObj D a C) → Q (.ref s.heap.objs.size) { s with heap := h' }) :
    _root_.PySem.wpAt (model P w) (A.deeper (envF (nfS name qual params st scope cc cda) f s0.heap.objs.size)) (.func st (envF (nfS name qual params st scope cc cda) f s0.heap.objs.size))
      (attributeBase (.Call (.Name "super" p0) [] [] p1) attr (envF (nfS name qual params st scope cc cda) f s0.heap.objs.size) whole) Q EE s := by
  obtain ⟨oc, od, osl, hf, hpar⟩ := F.fun_
  obtain ⟨ar, hp, hN, hka⟩ := F.arg
  obtain ⟨ccl, cdd, vs, ccs, file, tf, hcode, hvs, hfile⟩ := F.code
  obtain ⟨cl, cld, csl, hcell⟩ := F.cell
  obtain ⟨cdD, hD⟩ := F.cls
  have X : K.In s.heap := I.kIn
  have M : Mod K mg base := I.mod
  obtain ⟨mb, hb, hboot⟩ := M.blt
  obtain ⟨m, hns, hlook⟩ := I.loc
  obtain ⟨u, ru, look⟩ := hlook 0 ar.arg (.ref a) hN hs (.inl hka)
  have ru : u = Value.ref a := ru
  subst ru
  have hv : m ar.arg = some (.ref a) := by
    rcases look with ⟨_, e⟩ | ⟨e, _⟩
    · exact e
    · exfalso
      have e : scope.names.lookup ar.arg = some .cell ∨ scope.names.lookup ar.arg = some .free := e
      rw [hka] at e
      rcases e with e | e <;> cases e
  have kb : ∀ b o, base.get? b = some o → s.heap.get? b = some o := I.bk
  obtain ⟨hh, g, d, t, os⟩ := s
  obtain ⟨oD, hD1, hD2⟩ : ∃ oD, hh.get? D = some oD ∧ oD.data = .cls cdD := by
    unfold PySem.W.clsIn at hD
    split at hD
    · rename_i c d cd' sl ho
      cases hD
      exact ⟨_, X _ _ ho, rfl⟩
    · cases hD
  subst hpar
  refine PySem.ks_wpAt_super_base F.sup F.own hat rfl (X _ _ hf) rfl hp rfl (X _ _ hcode) rfl hvs hfile F.top ?_
  refine PySem.W.ks_loadName_global F.kind F.sup (PySem.Calls.loadGlobal_builtin (M.glob.keeps kb) (PySem.W.mg_none_of M.kin M.glob F.miss) (hb.keeps kb) ((hboot _ (by decide +kernel)).trans (show bootBuiltins "super" = some (.type "super") by first | rfl | decide +kernel)) ⟨rfl, ?_⟩)
  refine wpAny_loadName_free F.kind F.own rfl ⟨_, X _ _ hcell, rfl⟩ ?_
  refine wpAny_loadName_local F.kind hka hns hv ?_
  refine PySem.ks_wpAny_isType_cls hD1 hD2 ⟨rfl, ?_⟩
  refine PySem.ks_wpAny_call_super hD1 hD2 J.at_ J.cls (fun c e => ?_) (PySem.W.looks_mroIn X hsub) (fun h' e k => h h' k e)
  have := J.no
  unfold PySem.W.notCls at this
  rw [e] at this
  exact Bool.noConfusion this
end G0
namespace G0
open PySem PySem.Spec PyProof.Rows L2 NdefX
section
variable {prog : Program} {w : World} {A : Around} {E : Value → Shared → Prop} {h : Heap} {g : Array GenState} {d : Drawn} {t : Nat} {os : OsState}
/-- a bound ValueError.__init__ is called: the exception's arguments are laid anew -/
theorem mw_code {nm q : Str} {C N : Addr} {bs bm : List Value} {hdct : Bool} {sn : List Str} {sub : List Value} {ab : Bool} {col : Option Bool} {dd : Option Addr} {k0 k1 k2 k3 k5 : Option Value} {u e t0 : Addr} {rest : List Value} {Q : Value → Shared → Prop}
    (hC : h.get? C = some (excClassObj nm q C N bs bm hdct sn sub ab col dd k0 k1 k2 k3 k5 "ValueError.__new__")) (he : h.get? e = some (PySem.HandSPX.excO C t0)) (hu : h.get? u = some (PySem.W.kxs_mw "ValueError.__init__" e)) (few : rest.length ≤ sizeLine)
    (k : ∀ h' t1, (∀ b o, b ≠ e → h.get? b = some o → h'.get? b = some o) → h'.get? e = some (PySem.HandSPX.excO C t1) → Q .none ⟨h', g, d, t, os⟩) :
    wpAny (model prog w) A (call (.ref u) rest) Q E ⟨h, g, d, t, os⟩ := by
  refine wpAny_call (codeAny_of_tree ?_)
  show wpAny _ A.in1 (callAny (.ref u) ⟨rest, []⟩) _ _ _
  simp only [callAny]
  refine wpAny_bind (wpAny_load hu ?_)
  simp only [PySem.W.kxs_mw, show (Value.type "method-wrapper" == Value.type "method" || Value.type "method-wrapper" == Value.type "builtin_function_or_method" || Value.type "method-wrapper" == Value.type "method-wrapper") = true by decide, if_true]
  refine PySem.W.KFB.if_so (by decide) ?_
  refine wpAny_bind (PySem.ESX.check_bound PySem.F.excBase_ValueError hC he rfl ?_)
  refine wpAny_bind (wpAny_pure (wpAny_pure ?_))
  refine ⟨Code.quiet_builtin _ (by decide +kernel), codeAny_builtin PySem.F.excBase_ValueError.initEntry ?_⟩
  rw [Around.under_plainId PySem.F.excBase_ValueError.init.plain _]
  wp_walk
  refine k _ h.objs.size (fun b o hb ho => ?_) ?_
  · rw [Heap.get?_update_other _ _ (Ne.symm hb)]
    exact Heap.get?_push_of_some _ ho
  · rw [Heap.get?_update_self _ (Heap.get?_push_of_some _ he) rfl]
    rfl
end
section
variable {X : Cx} {pins : List (Addr × Obj)} {σ : L2.St} {H : Hp} {s : Shared} {a C u : Addr} {us : List Value} {Q : Value → Shared → Prop} {E : Value → Shared → Prop} {A : Around}
theorem mw_ok (T : OexC X.K C) (I : Inv X pins σ H s) (e : H a = some (exo a C none)) (hu : s.heap.get? u = some (PySem.W.kxs_mw "ValueError.__init__" a)) (hl : us.length ≤ sizeLine) (k : ∀ s', Inv X pins σ H s' → Q .none s') :
    wpAny (model X.prog X.w) A (call (.ref u) us) Q E s := by
  obtain ⟨nm, q, N, bs, bm, sn, sub, ab, col, dd, k0, k1, k2, k3, k5, hC, hbm⟩ := T.cls
  obtain ⟨t1, ho⟩ := exo_at I.hok e
  obtain ⟨hp, g, d, t, os⟩ := s
  refine mw_code (I.kIn _ _ hC) ho hu hl fun h' t2 keep hx => ?_
  have J := I.write (t' := t) (x := a) (e := a) (o := exo a C none) (by rw [e]; exact True.intro) (.inl rfl) keep ⟨_, hx⟩ (exo_ok hx)
  have eu : upd H a (exo a C none) = H := by
    funext b
    by_cases hb : b = a
    · rw [hb, upd_same, e]
    · rw [upd_ne hb]
  rw [eu] at J
  exact k _ J
end
end G0
namespace G0
open PySem PySem.Spec PyProof.Rows L2 NdefX
/-- super().__init__(..) of an own exception -/
def tSupX (K : PySem.W.Frag) (D : Addr) (ta : TA) : TS := fun Dn σ H => ∃ a C : Addr, σ[0]? = some (some (.ref a)) ∧ OexC K C ∧ H a = some (exo a C none) ∧ PySem.W.mroIn K C (.ref D) = some true ∧
  PySem.W.ks_superIn K C D "__init__" = some (some (.builtin "ValueError.__init__")) ∧ PySem.W.subIn K (.ref C) (.type "ValueError") = some true ∧
  ta σ H fun vs H1 => vs.length ≤ 1000 ∧ H1 a = some (exo a C none) ∧ Dn.nx σ H1
theorem p1_supX {CX : CXT} {P : Program} {w : World} {K : PySem.W.Frag} {mg : Str → Option Value} {base : Heap} {N : List Str}
    {f cc cda D : Addr} {name qual : Str} {params : Arguments} {st : List Stmt} {scope : Scope} {fd : FuncData}
    {A : Around} {outer : List Env} {s0 : Shared} {H0 : Hp} {E : XK} {p0 p1 ap pos pos' : Pos} {e : Expr} {es : List Expr} {ta : TA} {pl : Sem Bool}
    (F : SupF P K N f cc cda D fd params scope) (ha : PA (ncx CX P w K mg base N (nfS name qual params st scope cc cda) f A outer s0 H0 E) (e :: es) ta)
    (he : starEach (e :: es) (envF (nfS name qual params st scope cc cda) f s0.heap.objs.size) = (false, eval e (envF (nfS name qual params st scope cc cda) f s0.heap.objs.size)) :: starEach es (envF (nfS name qual params st scope cc cda) f s0.heap.objs.size) := by rfl)
    (hpl : (backTo pos (starEach es (envF (nfS name qual params st scope cc cda) f s0.heap.objs.size))).any (·.1) = false := by rfl)
    (hsw : swapsWith (.Call (.Attribute (.Call (.Name "super" p0) [] [] p1) "__init__" ap) (e :: es) [] pos) none pos'.line (envF (nfS name qual params st scope cc cda) f s0.heap.objs.size) = pure false := by rfl)
    (hev : eval (.Call (.Attribute (.Call (.Name "super" p0) [] [] p1) "__init__" ap) (e :: es) [] pos) (envF (nfS name qual params st scope cc cda) f s0.heap.objs.size) = (do
      let ov ← attributeBase (.Call (.Name "super" p0) [] [] p1) "__init__" (envF (nfS name qual params st scope cc cda) f s0.heap.objs.size) (eval (.Call (.Name "super" p0) [] [] p1) (envF (nfS name qual params st scope cc cda) f s0.heap.objs.size))
      standAt ap.atName
      let (f', first) ← holding [ov] (getMethod ov "__init__" pl)
      callWith pos f' first (backTo pos (starEach (e :: es) (envF (nfS name qual params st scope cc cda) f s0.heap.objs.size))) []) := by rfl) :
    P1 (ncx CX P w K mg base N (nfS name qual params st scope cc cda) f A outer s0 H0 E) st (.Expr (.Call (.Attribute (.Call (.Name "super" p0) [] [] p1) "__init__" ap) (e :: es) [] pos) pos') (tSupX K D ta) := by
  rintro pins s σ H Dn I ⟨a, C, hs, T, ea, hm, hsu, hve, q⟩
  obtain ⟨t0, ho⟩ := exo_at I.hok ea
  have J : PySem.W.InstAt s.heap a _ C none := ⟨ho, rfl, rfl, trivial⟩
  have fresh := I.hok.fresh (Nat.le_refl s.heap.objs.size)
  refine PySem.ks_wpAt_Expr_any (PySem.ks_wpAt_MethodCall (sup_node F I hs J hm (by decide) fun h' k e1 => ?_) hev) I.quiet hsw
  obtain ⟨hh, g, d, t, os⟩ := s
  have I1 : Inv (ncx CX P w K mg base N (nfS name qual params st scope cc cda) f A outer s0 H0 E) pins σ H ⟨h', g, d, t, os⟩ := I.kept (t' := t) k
  have X1 : K.In h' := I1.kIn
  obtain ⟨t1, ho1⟩ := exo_at I1.hok ea
  have J1 : PySem.W.InstAt h' a _ C none := ⟨ho1, rfl, rfl, trivial⟩
  have hI : PySem.W.Looks (model P w) h' (isInstance (.ref a) (.type "ValueError")) true := J1.type.andThen (PySem.W.looks_subIn X1 hve)
  cases hc : PySem.W.clsIn K C with
  | none => unfold PySem.W.ks_superIn at hsu; rw [hc] at hsu; cases hsu
  | some cd =>
    unfold PySem.W.ks_superIn at hsu
    rw [hc] at hsu
    refine PySem.W.kxs_getMethod PySem.W.kxs_ValueError e1 (PySem.W.looks_opaque X1 F.any_) (l₀ := cd.mro) (fun A Q E s k q => wpAny_bind ((PySem.W.looks_clsIn X1 hc) A _ E s k (wpAny_pure q))) rfl X1 hsu hI (PySem.W.ks_ne X1 J1 hc) (by decide) ?_
    have k2 : ∀ b o, h'.get? b = some o → (h'.push (PySem.W.kxs_mw "ValueError.__init__" a)).get? b = some o := fun b o e => Heap.get?_push_of_some _ e
    have I2 : Inv (ncx CX P w K mg base N (nfS name qual params st scope cc cda) f A outer s0 H0 E) pins σ H ⟨h'.push (PySem.W.kxs_mw "ValueError.__init__" a), g, d, t + 1, os⟩ := I1.kept (t' := t + 1) k2
    have pin : ∀ p ∈ pins ++ [(h'.objs.size, PySem.W.kxs_mw "ValueError.__init__" a)], (h'.push (PySem.W.kxs_mw "ValueError.__init__" a)).get? p.1 = some p.2 ∧ H p.1 = none ∧
        p.1 ≠ (envF (nfS name qual params st scope cc cda) f s0.heap.objs.size).locals ∧ p.1 ∉ frs outer ∧ ∀ v, p.2.data ≠ .cell v := by
      intro p hp
      rcases List.mem_append.mp hp with hp | hp
      · exact I2.pin p (List.mem_append_right _ hp)
      · rw [List.mem_singleton.mp hp]
        exact ⟨Heap.get?_push_at rfl rfl, I1.hok.fresh (Nat.le_refl _), fun z => absurd (Nat.lt_of_le_of_lt (Nat.le_of_eq z) I1.lt) (Nat.lt_irrefl _), I1.nofs (Nat.le_refl _), fun v z => by cases z⟩
    have I3 := I2.pins_of pin
    refine PySem.W.kxs_callWith1 (h₀ := base) (L := (envF (nfS name qual params st scope cc cda) f s0.heap.objs.size).locals) (news := [(h'.objs.size, PySem.W.kxs_mw "ValueError.__init__" a)]) (i := "ValueError.__init__") (x := a) ?_ (List.mem_singleton.mpr rfl) ?_ he hpl
    · intro p hp
      have hp := List.mem_singleton.mp hp
      subst hp
      refine ⟨Heap.get?_push_at rfl rfl, fun z => absurd (Nat.lt_of_le_of_lt (Nat.le_of_eq z) I1.lt) (Nat.lt_irrefl _), ?_⟩
      cases z : base.get? h'.objs.size with
      | none => rfl
      | some o => exact absurd (Heap.lt_size (I1.bk _ _ z)) (Nat.lt_irrefl _)
    · refine wpAny_mono (ha.run pos _ _ σ H _ I3 q) (fun us s3 got => ?_) fun e s' h => h
      obtain ⟨vs, H3, I4, r, vl, ea3, qn⟩ := got
      have hu := (I4.pin (h'.objs.size, PySem.W.kxs_mw "ValueError.__init__" a) (List.mem_append_right _ (List.mem_append_right _ (List.mem_singleton.mpr rfl)))).1
      refine ⟨hu, mw_ok T I4 ea3 hu (by rw [← r.length, sizeLine_eq]; omega) fun s' I5 => ?_⟩
      exact ⟨σ, H3, I5.unpinned, qn⟩
end G0
namespace G0
open PySem PySem.Spec PyProof.Rows L2 NdefX
/-- __init__ of an own exception: super().__init__('..'), then self.f = y -/
def spXI (C : Addr) (fld : Str) : Sp := fun vs H Q _ => ∃ (a : Addr) (y : V), vs = [.ref a, y] ∧ H a = some (exo a C none) ∧ ∀ dx, H dx = none → dx ≠ a → Q .non (upd (upd H dx (exd dx [(fld, y)])) a (exo a C (some dx)))
/-- what an own exception class asks -/
structure XcK (K : PySem.W.Frag) (C : Addr) (fld : Str) : Prop where
  T : OexC K C
  mro : PySem.W.mroIn K C (.ref C) = some true
  sup : PySem.W.ks_superIn K C C "__init__" = some (some (.builtin "ValueError.__init__"))
  ve : PySem.W.subIn K (.ref C) (.type "ValueError") = some true
  no : PySem.W.findIn K (.ref C) fld = some none
theorem ok_xinit {CX : CXT} {P : Program} {w : World} {K : PySem.W.Frag} {mg : Str → Option Value} {base : Heap}
    {f cc cda C : Addr} {name qual y fld m : Str} {params : Arguments} {scope : Scope} {dV kV doc pm ct oc cl : Value} {v : Option Value}
    {an od cld : Option Addr} {osl csl : Array (Option Value)} {p0 p1 ap mp pos pos' q0 q1 q2 q3 : Pos} {j : Nat}
    (lk : K.lookup f = some ⟨oc, od, .func (PySem.W.ksFn name qual params [.Expr (.Call (.Attribute (.Call (.Name "super" p0) [] [] p1) "__init__" ap) [.Constant (.str m) j mp] [] pos) pos',
      .Assign [.Attribute (.Name "self" q0) fld q1] (.Name y q2) q3] scope dV kV doc pm an (.ref cda) ct cc), osl⟩)
    (coded : PySem.W.codeIn K (.ref cda) qual = true) (lc : K.lookup cc = some ⟨cl, cld, .cell v, csl⟩)
    (S : NScope ["self", y, "__class__"] ["self", y] ["__class__"] scope) (X : XcK K C fld) (hy1 : (y == ("__debug__" : Str)) = false) (hy2 : (y == ("__classdict__" : Str)) = false)
    (hev : ∀ env : Env, ∃ pl : Sem Bool, eval (.Call (.Attribute (.Call (.Name "super" p0) [] [] p1) "__init__" ap) [.Constant (.str m) j mp] [] pos) env = (do
      let ov ← attributeBase (.Call (.Name "super" p0) [] [] p1) "__init__" env (eval (.Call (.Name "super" p0) [] [] p1) env)
      standAt ap.atName
      let (f', first) ← holding [ov] (getMethod ov "__init__" pl)
      callWith pos f' first (backTo pos (starEach [.Constant (.str m) j mp] env)) []))
    (hsw : ∀ env : Env, swapsWith (.Call (.Attribute (.Call (.Name "super" p0) [] [] p1) "__init__" ap) [.Constant (.str m) j mp] [] pos) none pos'.line env = pure false) (hs2 : ∀ env : Env, swapsWith (.Name y q2) (some (.Attribute (.Name "self" q0) fld q1)) q3.line env = pure false)
    (F : SupF P K ["self", y, "__class__"] f cc cda C (PySem.W.ksFn name qual params [.Expr (.Call (.Attribute (.Call (.Name "super" p0) [] [] p1) "__init__" ap) [.Constant (.str m) j mp] [] pos) pos',
      .Assign [.Attribute (.Name "self" q0) fld q1] (.Name y q2) q3] scope dV kV doc pm an (.ref cda) ct cc) params scope) :
    FnOk P w K mg base CX (0 + 1) f (PySem.W.ksFn name qual params [.Expr (.Call (.Attribute (.Call (.Name "super" p0) [] [] p1) "__init__" ap) [.Constant (.str m) j mp] [] pos) pos',
      .Assign [.Attribute (.Name "self" q0) fld q1] (.Name y q2) q3] scope dV kV doc pm an (.ref cda) ct cc) ["self", y] (spXI C fld) := by
  refine fnS_of lk coded lc S ?_ fun A outer s H vs Q E hr h => ?_
  · rintro vs H Q E ⟨a, z, rfl, _⟩
    rfl
  · obtain ⟨a, z, rfl, ea, q⟩ := h
    obtain ⟨pl, hpl⟩ := hev (envF (nfS name qual params [.Expr (.Call (.Attribute (.Call (.Name "super" p0) [] [] p1) "__init__" ap) [.Constant (.str m) j mp] [] pos) pos', .Assign [.Attribute (.Name "self" q0) fld q1] (.Name y q2) q3] scope cc cda) f s.heap.objs.size)
    refine ⟨_, _, p1_supX F (pa_cons pe_str pa_nil) (hsw := hsw _) (hev := hpl), pss_one (ps_ost (pv 0 (by rfl) (.inl (S.par _ (by simp)))) (pv 1 (by rfl) (.inl (S.par _ (by simp))) hy1 hy2) (hs2 _)), ?_⟩
    refine ⟨a, C, rfl, X.T, ea, X.mro, X.sup, X.ve, by show 1 ≤ 1000; decide, ea, ?_⟩
    exact ⟨_, rfl, _, rfl, a, C, rfl, X.T, X.no, .inl ⟨ea, fun dx h1 h2 => q dx h1 h2⟩⟩
end G0
namespace G0
open PySem PySem.Spec PyProof.Rows L2 NdefX
/-- raise X(e) -/
theorem ps_raiseX {X : Cx} {W : WX} {x y fld : Str} {C fI : Addr} {fd : FuncData} {p pos pos' : Pos} {e : Expr} {te : TE} (T : OexC X.K C) (iC : PySem.W.findIn X.K (.ref C) "__init__" = some (some (.ref fI)))
    (tI : PySem.W.typeIn X.K (.ref fI) = some (.type "function")) (F1 : FnOk X.prog X.w X.K X.mg X.base CX0 1 fI fd ["self", y] (spXI C fld)) (hb : Binds X.K fd ["self", y] []) (hr : Room 2 X.A)
    (hg : Gl X x) (hm : X.mg x = some (.ref C)) (hc : X.calm = true) (tk : Takes X W) (ha : PE X e te) (hdb : (x == ("__debug__" : Str)) = false := by decide)
    (he : starEach [e] X.env = (false, eval e X.env) :: starEach [] X.env := by rfl) (hpl : (backTo pos (starEach [] X.env)).any (·.1) = false := by rfl) :
    PS X (.Raise (some (.Call (.Name x p) [e] [] pos)) none pos') (fun _ σ H => tMkO C (spXI C fld) [] (tCons te tNil) σ H fun cls d H' => W cls d σ H') :=
  ps_raise hc tk (pmk_oex T iC tI F1 hr hb .nil pass0 hg hm (pa_cons (hs := he) ha pa_nil) hdb he hpl)
theorem xc_done {C : Addr} {fld : Str} {y : V} {H1 : Hp} {R : XK} (h : ∀ d, H1 d = none → R (.ref C) (some d) (upd H1 d (.xd [(fld, y)]))) :
    [y].length ≤ 1000 ∧ ∀ a, H1 a = none → spXI C fld (.ref a :: ([y] ++ [])) (upd H1 a (exo a C none))
      (fun v H2 => v = .non ∧ ∃ (d : Addr) (fs : List (Str × V)), H2 a = some (exo a C (some d)) ∧ H2 d = some (exd d fs) ∧ H1 d = none ∧ R (.ref C) (some d) (upd (del H2 a) d (.xd fs))) (fun _ _ _ => False) := by
  refine ⟨by show 1 ≤ 1000; decide, fun a ha => ⟨a, y, rfl, upd_same, fun dx h1 h2 => ?_⟩⟩
  have hd : H1 dx = none := by rw [upd_ne h2] at h1; exact h1
  refine ⟨rfl, dx, [(fld, y)], upd_same, by rw [upd_ne h2, upd_same], hd, ?_⟩
  have e : upd (del (upd (upd (upd H1 a (exo a C none)) dx (exd dx [(fld, y)])) a (exo a C (some dx))) a) dx (.xd [(fld, y)]) = upd H1 dx (.xd [(fld, y)]) := by
    funext b
    by_cases c : b = dx
    · subst c; rw [upd_same, upd_same]
    · rw [upd_ne c, upd_ne c]
      by_cases c2 : b = a
      · subst c2; rw [del_same, ha]
      · rw [del_ne c2, upd_ne c2, upd_ne c, upd_ne c2]
  rw [e]
  exact h dx hd
end G0
namespace G0
open PySem PySem.Spec PyProof.Rows L2 NdefX ClX
/-- super().__init__(..) of an instance of an own class, D's base giving a def -/
def tSupM (K : PySem.W.Frag) (D f2 : Addr) (sp : Sp) (ta : TA) : TS := fun Dn σ H => ∃ (a C dx : Addr) (fs : List (Str × V)), σ[0]? = some (some (.ref a)) ∧ H a = some (.ins C dx fs) ∧ PySem.W.mroIn K C (.ref D) = some true ∧
  PySem.W.ks_superIn K C D "__init__" = some (some (.ref f2)) ∧ PySem.W.typeIn K (.ref f2) = some (.type "function") ∧ PySem.W.fnIn K f2 = true ∧
  ta σ H fun vs H1 => sp (.ref a :: vs) H1 (fun _ H2 => Dn.nx σ H2) (fun _ _ _ => False)
theorem p1_supM {CX : CXT} {P : Program} {w : World} {K : PySem.W.Frag} {mg : Str → Option Value} {base : Heap} {N : List Str} {k2 : Nat} {sp : Sp}
    {f cc cda D f2 : Addr} {name qual : Str} {params : Arguments} {st : List Stmt} {scope : Scope} {fd : FuncData}
    {A : Around} {outer : List Env} {s0 : Shared} {H0 : Hp} {E : XK} {p0 p1 ap pos pos' : Pos} {e : Expr} {es : List Expr} {ta : TA} {pl : Sem Bool}
    (F : SupF P K N f cc cda D fd params scope) (F2 : FnR P w K mg base CX0 k2 f2 sp) (hr : Room k2 (A.deeper (envF (nfS name qual params st scope cc cda) f s0.heap.objs.size)))
    (ha : PA (ncx CX P w K mg base N (nfS name qual params st scope cc cda) f A outer s0 H0 E) (e :: es) ta)
    (he : starEach (e :: es) (envF (nfS name qual params st scope cc cda) f s0.heap.objs.size) = (false, eval e (envF (nfS name qual params st scope cc cda) f s0.heap.objs.size)) :: starEach es (envF (nfS name qual params st scope cc cda) f s0.heap.objs.size) := by rfl)
    (hpl : (backTo pos (starEach es (envF (nfS name qual params st scope cc cda) f s0.heap.objs.size))).any (·.1) = false := by rfl)
    (hsw : swapsWith (.Call (.Attribute (.Call (.Name "super" p0) [] [] p1) "__init__" ap) (e :: es) [] pos) none pos'.line (envF (nfS name qual params st scope cc cda) f s0.heap.objs.size) = pure false := by rfl)
    (hev : eval (.Call (.Attribute (.Call (.Name "super" p0) [] [] p1) "__init__" ap) (e :: es) [] pos) (envF (nfS name qual params st scope cc cda) f s0.heap.objs.size) = (do
      let ov ← attributeBase (.Call (.Name "super" p0) [] [] p1) "__init__" (envF (nfS name qual params st scope cc cda) f s0.heap.objs.size) (eval (.Call (.Name "super" p0) [] [] p1) (envF (nfS name qual params st scope cc cda) f s0.heap.objs.size))
      standAt ap.atName
      let (f', first) ← holding [ov] (getMethod ov "__init__" pl)
      callWith pos f' first (backTo pos (starEach (e :: es) (envF (nfS name qual params st scope cc cda) f s0.heap.objs.size))) []) := by rfl) :
    P1 (ncx CX P w K mg base N (nfS name qual params st scope cc cda) f A outer s0 H0 E) st (.Expr (.Call (.Attribute (.Call (.Name "super" p0) [] [] p1) "__init__" ap) (e :: es) [] pos) pos') (tSupM K D f2 sp ta) := by
  rintro pins s σ H Dn I ⟨a, C, dx, fs, hs, ea, hm, hsu, hty, hfn, q⟩
  obtain ⟨mA, OM, _⟩ := ins_get I.hok ea
  obtain ⟨od, J, _⟩ := OM.look
  refine PySem.ks_wpAt_Expr_any (PySem.ks_wpAt_MethodCall (sup_node F I hs J hm (by decide) fun h' k e1 => ?_) hev) I.quiet hsw
  obtain ⟨hh, g, d, t, os⟩ := s
  have I1 : Inv (ncx CX P w K mg base N (nfS name qual params st scope cc cda) f A outer s0 H0 E) pins σ H ⟨h', g, d, t, os⟩ := I.kept (t' := t) k
  have X1 : K.In h' := I1.kIn
  obtain ⟨mA1, OM1, _⟩ := ins_get I1.hok ea
  obtain ⟨od1, J1, _⟩ := OM1.look
  cases hc : PySem.W.clsIn K C with
  | none => unfold PySem.W.ks_superIn at hsu; rw [hc] at hsu; cases hsu
  | some cd =>
    unfold PySem.W.ks_superIn at hsu
    rw [hc] at hsu
    obtain ⟨of, hof, hofc⟩ : ∃ of, h'.get? f2 = some of ∧ of.cls = .type "function" := by
      have ht' : (K.lookup f2).map (·.cls) = some (.type "function") := hty
      cases z : K.lookup f2 with
      | none => rw [z] at ht'; cases ht'
      | some of => rw [z] at ht'; exact ⟨of, X1 _ _ z, Option.some.inj ht'⟩
    refine PySem.ks_wpAny_getMethod_super e1 (PySem.W.looks_opaque X1 F.any_) (l₀ := cd.mro) (fun A Q E s k q => wpAny_bind ((PySem.W.looks_clsIn X1 hc) A _ E s k (wpAny_pure q))) rfl X1 hsu hof hofc (PySem.W.ks_ne X1 J1 hc) (by decide) ?_
    have I3 := met_new (g := f2) (C := a) I1
    refine callwith_cm (C := a) (g := f2) I3 ?_ hfn ?_ he hpl
    · cases z : base.get? h'.objs.size with
      | none => exact z
      | some o => exact absurd (Heap.lt_size (I1.bk _ _ z)) (Nat.lt_irrefl _)
    · refine wpAny_mono (ha.run pos _ _ σ H _ I3 q) (fun us s3 got => ?_) fun e s' h => h
      obtain ⟨vs, H3, I4, r, qn⟩ := got
      refine ⟨⟨pin_at I4, I4.kIn⟩, ?_⟩
      refine wpAny_mono (run_cm F2 hr pass0 I4 r qn) (fun u s' z => ?_) fun e s' h => h
      obtain ⟨v, H', I5, _, qq⟩ := z
      exact ⟨σ, H', I5, qq⟩
end G0
namespace G0
open PySem PySem.Spec PyProof.Rows L2 NdefX ClX
def top (i : Nat) : Stmt := PySem.Challenge.pw_soleseat_k72_handed_on.main.body.getD i (.Pass ⟨0, 0, 0, 0⟩)
abbrev s_wall : Stmt := top 0
abbrev s_Seat__init : Stmt := inClass (top 2) 0
abbrev s_Seat_ask : Stmt := inClass (top 2) 1
abbrev s_Seat_leave : Stmt := inClass (top 2) 2
abbrev s_Seat_hear : Stmt := inClass (top 2) 3
abbrev s_Seat_gone : Stmt := inClass (top 2) 4
abbrev s_Key__init : Stmt := inClass (top 4) 0
abbrev s_Key_told : Stmt := inClass (top 4) 1
abbrev s_Key_serve : Stmt := inClass (top 4) 2
abbrev s_Key_renew : Stmt := inClass (top 4) 3
abbrev s_Key_line_up : Stmt := inClass (top 4) 4
abbrev s_Key_take_first : Stmt := inClass (top 4) 5
abbrev s_Key_is_due : Stmt := inClass (top 4) 6
abbrev s_Caller__init : Stmt := inClass (top 7) 0
abbrev s_Caller_ask : Stmt := inClass (top 7) 1
abbrev s_Caller_leave : Stmt := inClass (top 7) 2
abbrev s_Caller_hear : Stmt := inClass (top 7) 3
abbrev s_Caller_gone : Stmt := inClass (top 7) 4
abbrev s_Caller_bears : Stmt := inClass (top 7) 5
abbrev s_Caller_roster : Stmt := inClass (top 7) 6
abbrev s_Caller_numbers : Stmt := inClass (top 7) 7
abbrev s_Caller_awaits : Stmt := inClass (top 7) 8
abbrev s_Caller_to_others : Stmt := inClass (top 7) 9
abbrev s_Caller_learn : Stmt := inClass (top 7) 10
abbrev s_Caller_hear_ask : Stmt := inClass (top 7) 11
abbrev s_Caller_hear_key : Stmt := inClass (top 7) 12
abbrev s_Caller_hear_round : Stmt := inClass (top 7) 13
abbrev s_Caller_hear_pledge : Stmt := inClass (top 7) 14
abbrev s_Caller_begin : Stmt := inClass (top 7) 15
abbrev s_Caller_pledge : Stmt := inClass (top 7) 16
abbrev s_Caller_make_key : Stmt := inClass (top 7) 17
abbrev s_Caller_hand_on : Stmt := inClass (top 7) 18
abbrev s_law_cell_at : Stmt := top 9
abbrev s_law_bits : Stmt := top 10
abbrev s_law_among : Stmt := top 11
abbrev s_law_round_from : Stmt := top 12
abbrev s_law_asked : Stmt := top 13
abbrev s_law_pairs : Stmt := top 14
abbrev s_law_quiet : Stmt := top 15
abbrev s_law_first_leaves : Stmt := top 16
abbrev s_law_second_leaves : Stmt := top 17
abbrev s_law : Stmt := top 18
theorem u64 {k : Nat} {A : Around} (hr : Room k A) : A.units + 64 < cLine := by have := hr.un; omega
theorem dec_ii {a b : Int} : decide (V.int a = V.int b) = decide (a = b) := decide_eq_decide.mpr ⟨fun h => by cases h; rfl, fun h => by rw [h]⟩
theorem lc_yes {te : TE} {σ : L2.St} {H : Hp} {Q : VK} {B : Hp → Prop} (h : te σ H Q) : tYes σ H (fun b H3 => if b = true then te σ H3 Q else B H3) := by
  show (if true = true then te σ H Q else B H)
  exact iteT h
def tDead : TS := fun _ _ _ => False
theorem ps_dead {X : Cx} {st : Stmt} : PS X st tDead := ⟨fun _ _ _ _ _ _ h => h.elim⟩
/-- {k: v for .. in xs}, xs a list -/
theorem dc_list {K : PySem.W.Frag} {a : Addr} {xs : List V} {g : TG} {tt : TT} {tk tv : TE} {vs : List Nat} {σ : L2.St} {H1 : Hp} {D : Addr} {Qd : Hp → Prop} (Pv : Nat → Hp → Prop) (start : Pv 0 (upd H1 D (.dK []))) (stays : ∀ i G, Pv i G → SqL K G a xs)
    (step : ∀ i x G, xs[i]? = some x → Pv i G → g x (wipe σ vs) G fun σ2 H2 => wipe σ2 vs = wipe σ vs ∧ tt σ2 H2 fun b H3 =>
      if b = true then tk σ2 H3 fun y H4 => tv σ2 H4 fun z H5 => ∃ kvs k, y = kV k ∧ H5 D = some (.dK kvs) ∧ kvs.length < sizeLine ∧ Pv (i + 1) (upd H5 D (.dK (putK kvs k z))) else Pv (i + 1) H3) (fin : ∀ G, Pv xs.length G → Qd G) :
    ∃ W : Nat → Nat → Hp → Prop, (∃ m, W 0 m (upd H1 D (.dK []))) ∧ ∀ i m G, W i m G →
      ((Itl K a).stop i G ∧ Qd G) ∨ ((Itl K a).go i G ∧ ∃ Nx : Hp → Prop, (∀ G', Nx G' → ∃ m', m' < m ∧ W (i + 1) m' G') ∧ ∀ x G', (Itl K a).yld i G x G' → g x (wipe σ vs) G' fun σ2 H2 => wipe σ2 vs = wipe σ vs ∧ tt σ2 H2 fun b H3 =>
        if b = true then tk σ2 H3 fun y H4 => tv σ2 H4 fun z H5 => ∃ kvs k, y = kV k ∧ H5 D = some (.dK kvs) ∧ kvs.length < sizeLine ∧ Nx (upd H5 D (.dK (putK kvs k z))) else Nx H3) := by
  refine ⟨fun i m G => m + i = xs.length ∧ Pv i G, ⟨xs.length, rfl, start⟩, ?_⟩
  rintro i m G ⟨e, p⟩
  have sq := stays i G p
  rcases Nat.lt_or_ge i xs.length with lt | ge
  · refine .inr ⟨⟨xs, xs[i], sq, List.getElem?_eq_getElem lt⟩, Pv (i + 1), fun G' p' => ⟨m - 1, by omega, by omega, p'⟩, fun x G' told => ?_⟩
    obtain ⟨rfl, y⟩ := told
    exact step i x G' (y xs sq) p
  · have e' : i = xs.length := by omega
    subst e'
    exact .inl ⟨⟨xs, sq, Nat.le_refl _⟩, fin G p⟩
structure BlK71 (mg : Str → Option Value) : Prop where
  sorted : mg "sorted" = none
  tuple : mg "tuple" = none
def Me (P : Program) (w : World) (K : PySem.W.Frag) (mg : Str → Option Value) (base : Heap) (C : Addr) (x : Str) (k : Nat) (ps : List Str) (sp : Sp) : Prop :=
  ∃ f fd, FnOk P w K mg base CX0 k f fd ps sp ∧ Binds K fd ps [] ∧ Meth K C x f
section
variable {P : Program} {w : World} {K : PySem.W.Frag} {mg : Str → Option Value} {base : Heap} {C CK f : Addr} {fd : FuncData}
theorem two_dp {H : Hp} {x : V} {d1 d2 : PyData} (h : Dp K H x (.tuple [d1, d2])) : ∃ t v1 v2, x = .ref t ∧ SqT K H t [v1, v2] ∧ Dp K H v1 d1 ∧ Dp K H v2 d2 := by
  cases h with
  | tup hs ha =>
    cases ha with
    | cons h1 h2 =>
      cases h2 with
      | cons h3 h4 =>
        cases h4
        exact ⟨_, _, _, rfl, hs, h1, h3⟩
theorem dps_at {H : Hp} {vs : List V} {ds : List PyData} (h : DpAll K H vs ds) : ∀ {i : Nat} {v : V}, vs[i]? = some v → ∃ d, ds[i]? = some d ∧ Dp K H v d := by
  match vs, ds, h with
  | [], [], _ => intro i v e; simp at e
  | v :: vs, d :: ds, .cons h1 h2 =>
    intro i v' e
    cases i with
    | zero => exact ⟨d, rfl, by have : v = v' := by simpa using e
                                rw [← this]; exact h1⟩
    | succ i => exact dps_at h2 (by simpa using e)
theorem dps_at' {α : Type} {f : α → PyData} {H : Hp} {vs : List V} {L : List α} (h : DpAll K H vs (L.map f)) {i : Nat} {v : V} (e : vs[i]? = some v) : ∃ a, L[i]? = some a ∧ Dp K H v (f a) := by
  obtain ⟨d, e1, e2⟩ := dps_at h e
  rw [List.getElem?_map] at e1
  cases z : L[i]? with
  | none => rw [z] at e1; cases e1
  | some a =>
    rw [z] at e1
    cases e1
    exact ⟨a, rfl, e2⟩
theorem ints_at {ns : List Int} {i : Nat} {x : V} (h : (ns.map V.int)[i]? = some x) : ∃ k, ns[i]? = some k ∧ x = V.int k := by
  rw [List.getElem?_map] at h
  cases e : ns[i]? with
  | none => rw [e] at h; cases h
  | some k => rw [e] at h; exact ⟨k, rfl, (Option.some.inj h).symm⟩
/-! ### the key -/
def pairD (p : Int × Int) : PyData := .tuple [.int p.1, .int p.2]
def entI (p : Int × Int) : Key × V := (Sum.inl p.1, V.int p.2)
theorem noLs_pairs : ∀ S : List (Int × Int), noLs (S.map pairD) = true
  | [] => rfl
  | p :: S => by
    have := noLs_pairs S
    simp only [List.map_cons, noLs, pairD, noL, Bool.true_and]
    exact this
theorem ent_none {S : List (Int × Int)} {m : Int} (h : m ∉ S.map (·.1)) : valV (S.map entI) (Sum.inl m) = none := by
  induction S with
  | nil => rfl
  | cons p S ih =>
    rw [List.map_cons] at h
    rw [List.map_cons, valV_neg (fun e => h (by
      have : p.1 = m := Sum.inl.inj e
      rw [← this]; exact List.mem_cons_self ..))]
    exact ih fun z => h (List.mem_cons_of_mem _ z)
theorem ent_some {S : List (Int × Int)} {p : Int × Int} (nd : (S.map (·.1)).Nodup) (m : p ∈ S) : valV (S.map entI) (Sum.inl p.1) = some (.int p.2) := by
  induction S with
  | nil => simp at m
  | cons q S ih =>
    rw [List.map_cons] at nd ⊢
    obtain ⟨n1, n2⟩ := List.nodup_cons.mp nd
    rcases List.mem_cons.mp m with e | m
    · subst e
      exact valV_pos rfl
    · rw [valV_neg (fun e => n1 (by
        have : q.1 = p.1 := Sum.inl.inj e
        rw [this]; exact List.mem_map_of_mem m))]
      exact ih n2 m
structure KeyT (K : PySem.W.Frag) (C : Addr) : Prop where
  cl : Cls K C
  round : NoAttr K C "round"
  served : NoAttr K C "_served"
  line : NoAttr K C "_line"
structure KeyAt (H : Hp) (CK k dk : Addr) (r : Int) (d l : Addr) (S : List (Int × Int)) (ns : List Int) : Prop where
  hp : H k = some (.ins CK dk (keF r d l))
  hd : H d = some (.dK (S.map entI))
  hl : H l = some (.lst (ns.map V.int))
  nd : (S.map (·.1)).Nodup
  few : S.length ≤ 60
  few2 : ns.length ≤ 1000
theorem KeyAt.same {H H' : Hp} {k dk : Addr} {r : Int} {d l : Addr} {S : List (Int × Int)} {ns : List Int} (A : KeyAt H CK k dk r d l S ns) (s : Same H H') : KeyAt H' CK k dk r d l S ns :=
  { A with hp := s _ _ A.hp, hd := s _ _ A.hd, hl := s _ _ A.hl }
theorem yes_ite {σ : L2.St} {H : Hp} {A B : Hp → Prop} (h : A H) : tYes σ H (fun b H3 => if b = true then A H3 else B H3) := by
  show (if true = true then A H else B H)
  exact iteT h
theorem sql_chgI {H H' : Hp} {q D dx : Addr} {fs : List (Str × V)} (hq : H q = some (.ins D dx fs)) (c : Chg q H H') {a : Addr} {xs : List V} (h : SqL K H a xs) : SqL K H' a xs := by
  rcases h with (z | ⟨o, z⟩) | z
  · exact .inl (.inl (c _ _ (ne_of z hq (by intro y; cases y)) z))
  · exact .inl (.inr ⟨o, c _ _ (ne_of z hq (by intro y; cases y)) z⟩)
  · exact .inr z
theorem sqt_chgI {H H' : Hp} {q D dx : Addr} {fs : List (Str × V)} (hq : H q = some (.ins D dx fs)) (c : Chg q H H') {a : Addr} {xs : List V} (h : SqT K H a xs) : SqT K H' a xs := by
  rcases h with (z | ⟨o, z⟩) | z
  · exact .inl (.inl (c _ _ (ne_of z hq (by intro y; cases y)) z))
  · exact .inl (.inr ⟨o, c _ _ (ne_of z hq (by intro y; cases y)) z⟩)
  · exact .inr z
mutual
theorem dp_chgI {H H' : Hp} {q D dx : Addr} {fs : List (Str × V)} (hq : H q = some (.ins D dx fs)) (c : Chg q H H') : ∀ (d : PyData) (v : V), Dp K H v d → Dp K H' v d
  | .none, _, h => by cases h; exact .non
  | .bool _, _, h => by cases h; exact .bl _
  | .int _, _, h => by cases h; exact .int _
  | .str _, _, h => by cases h; exact .str _
  | .dict _, _, h => by cases h
  | .list ds, _, h => by
    cases h with
    | lst hs ha => exact .lst (sql_chgI hq c hs) (dps_chgI hq c ds _ ha)
  | .tuple ds, _, h => by
    cases h with
    | tup hs ha => exact .tup (sqt_chgI hq c hs) (dps_chgI hq c ds _ ha)
theorem dps_chgI {H H' : Hp} {q D dx : Addr} {fs : List (Str × V)} (hq : H q = some (.ins D dx fs)) (c : Chg q H H') : ∀ (ds : List PyData) (vs : List V), DpAll K H vs ds → DpAll K H' vs ds
  | [], _, h => by cases h; exact .nil
  | d :: ds, _, h => by
    cases h with
    | cons h1 h2 => exact .cons (dp_chgI hq c d _ h1) (dps_chgI hq c ds _ h2)
end
def spKInit (K : PySem.W.Frag) (CK : Addr) : Sp := fun vs H Q _ => ∃ (p dx sv ln : Addr) (r : Int) (ys : List V) (S : List (Int × Int)) (ns : List Int), vs = [.ref p, .int r, .ref sv, .ref ln] ∧ H p = some (.ins CK dx []) ∧ SqL K H sv ys ∧ DpAll K H ys (S.map pairD) ∧ SqL K H ln (ns.map V.int) ∧
  (S.map (·.1)).Nodup ∧ S.length ≤ 60 ∧ ns.length ≤ 1000 ∧ ∀ d l H', H d = none → H l = none → d ≠ p → l ≠ p → d ≠ l → Chg p H H' → KeyAt H' CK p dx r d l S ns → Q .non H'
theorem keF_made0 (r : Int) (d l : Addr) : putF "_line" (.ref l) (putF "_served" (.ref d) (putF "round" (.int r) [])) = keF r d l := keF_made r d l
theorem sc_Key__init : FnScope ["self", "of_round", "served", "line", "member", "number"] ["self", "of_round", "served", "line"] (defScope s_Key__init) :=
  ⟨rfl, rfl, rfl, by decide +kernel, rfl, by decide +kernel, by decide +kernel⟩
theorem ok_kinit (F : Fun K "__init__" "Key.__init__" s_Key__init f fd) (hL : mg "list" = none) (T : KeyT K CK) : FnOk P w K mg base CX0 1 f fd ["self", "of_round", "served", "line"] (spKInit K CK) := by
  refine F.ok sc_Key__init (fun vs H Q E h => ?_) (fun cdv A outer s H vs Q E hr h => ?_)
  · obtain ⟨p, dx, sv, ln, r, ys, S, ns, rfl, _⟩ := h
    rfl
  obtain ⟨p, dx, sv, ln, r, ys, S, ns, rfl, hp, qS, dS, qL, nd, l60, l2, q⟩ := h
  refine ⟨_, (pss_cons (ps_fld (pv 0) (pv 1) rfl)
    (pss_cons (ps_fld (pv 0) (pe_dc (own := [("member", 4), ("number", 5)]) (g := gTup K 2 (gCons (gName 4) (gCons (gName 5) gNil))) (tt := tYes) (by rfl) sc_Key__init.nd (pi_list (pv 2)) (blkOk_by (N := ["self", "of_round", "served", "line", "member", "number"]) (sc := defScope s_Key__init) (by decide +kernel)) (fun _ _ _ _ _ => pg_tup (by rfl) (pgs_cons (pg_name (i := 4) sc_Key__init.nd rfl (Or.inl rfl)) (pgs_cons (pg_name (i := 5) sc_Key__init.nd rfl (Or.inl rfl)) pgs_nil))) (fun _ _ _ _ _ => pts_nil) (fun _ _ _ _ _ => (pv 4)) (fun _ _ _ _ _ => (pv 5))) rfl)
    (pss_one (ps_fld (pv 0) (pe_callTy call_list_of (by rfl) hL (by decide +kernel) (pa_cons (pv 3) pa_nil)) rfl)))), ?_⟩
  refine ⟨_, rfl, _, rfl, p, CK, dx, _, rfl, hp, T.cl, T.round, (by show 0 < 1000; decide), ?_⟩
  obtain ⟨H1, e1⟩ : ∃ H1, H1 = upd H p (.ins CK dx (putF "round" (.int r) [])) := ⟨_, rfl⟩
  have c1 : Chg p H H1 := by rw [e1]; exact Chg.self
  have hp1 : H1 p = some (.ins CK dx (putF "round" (.int r) [])) := by rw [e1]; exact upd_same
  rw [← e1]
  have qS1 := sql_chgI hp c1 qS
  have dS1 := dps_chgI hp c1 _ _ dS
  have lS : ys.length = S.length := by rw [dps_len dS, List.length_map]
  refine ⟨_, rfl, sv, rfl, ⟨_, qS1⟩, fun D hD => ?_⟩
  refine dc_list (K := K) (a := sv) (xs := ys) (fun i G => Same H1 G ∧ G D = some (.dK ((S.take i).map entI))) ⟨same_upd hD, upd_same⟩ (fun i G h => h.1.seq qS1) ?_ ?_
  · rintro i x G hx ⟨sG, kD⟩
    obtain ⟨pr, er, dp⟩ := dps_at' dS1 hx
    have li := (List.getElem?_eq_some_iff.mp er).1
    obtain ⟨t, v1, v2, rfl, qt, d1, d2⟩ := two_dp dp
    cases d1
    cases d2
    refine ⟨t, _, rfl, sqt_same sG qt, rfl, _, _, rfl, _, _, rfl, rfl, rfl, yes_ite ?_⟩
    refine ⟨_, rfl, _, rfl, _, Sum.inl pr.1, rfl, kD, ?_, fun b o e => ?_, ?_⟩
    · rw [List.length_map]
      refine Nat.lt_of_le_of_lt (List.length_take_le _ _) (Nat.lt_of_lt_of_le (show i < 100 by omega) (by decide))
    · rw [upd_ne (ne_of_none e hD)]
      exact sG _ _ e
    · have nin : pr.1 ∉ (S.take i).map (·.1) := fun z => by
        rw [List.map_take] at z
        obtain ⟨j, lj, ej⟩ := List.mem_take_iff_getElem.mp z
        have lj' : j < i := by omega
        have h2 : (S.map (·.1))[i]? = some pr.1 := by rw [List.getElem?_map, er]; rfl
        have h1 : (S.map (·.1))[j]? = some pr.1 := by rw [List.getElem?_eq_getElem (by omega), ej]
        have := (List.getElem?_inj (by rw [List.length_map]; omega) nd).mp (h1.trans h2.symm)
        omega
      rw [putK_new _ (ent_none nin), List.take_succ, er, List.map_append]
      exact upd_same
  rintro G ⟨sG, kD⟩
  rw [lS, List.take_length] at kD
  have hpG := sG _ _ hp1
  have Dp : D ≠ p := (ne_of_none hp1 hD).symm
  refine ⟨_, rfl, p, CK, dx, _, rfl, hpG, T.cl, T.served, (by show 1 < 1000; decide), ?_⟩
  obtain ⟨H2, e2⟩ : ∃ H2, H2 = upd G p (.ins CK dx (putF "_served" (.ref D) (putF "round" (.int r) []))) := ⟨_, rfl⟩
  rw [← e2]
  have c2 : Chg p H H2 := fun b o nb e => by
    rw [e2, upd_ne nb]
    exact sG _ _ (c1 _ _ nb e)
  have hp2 : H2 p = some (.ins CK dx (putF "_served" (.ref D) (putF "round" (.int r) []))) := by rw [e2]; exact upd_same
  have kD2 : H2 D = some (.dK (S.map entI)) := by rw [e2, upd_ne Dp]; exact kD
  refine ⟨_, rfl, ln, _, rfl, .inl (sql_chgI hp c2 qL), fun l hl => ?_⟩
  have lp : l ≠ p := (ne_of_none hp2 hl).symm
  have lD : D ≠ l := ne_of_none kD2 hl
  refine ⟨_, rfl, p, CK, dx, _, rfl, (upd_ne lp.symm).trans hp2, T.cl, T.line, (by show 2 < 1000; decide), ?_⟩
  rw [keF_made0]
  have back : ∀ {x : Addr}, x ≠ p → H2 x = none → H x = none := fun n h => by
    cases z : H _ with
    | none => rfl
    | some o => rw [c2 _ _ n z] at h; cases h
  have D0 : H D = none := by
    cases z : H D with
    | none => rfl
    | some o => rw [c1 _ _ Dp z] at hD; cases hD
  refine q D l _ D0 (back lp hl) Dp lp lD (fun b o nb e => ?_) ⟨upd_same, ?_, ?_, nd, l60, l2⟩
  · rw [upd_ne nb, upd_ne (ne_of_none (c2 _ _ nb e) hl)]
    exact c2 _ _ nb e
  · rw [upd_ne Dp, upd_ne lD]; exact kD2
  · rw [upd_ne lp]; exact upd_same
/-! ### told -/
def toldD (r : Int) (S : List (Int × Int)) (ns : List Int) : PyData := .tuple [.int r, .tuple (S.map pairD), .tuple (ns.map PyData.int)]
def spTold (K : PySem.W.Frag) (CK : Addr) : Sp := fun vs H Q _ => ∃ (k dk : Addr) (r : Int) (d l : Addr) (S : List (Int × Int)) (ns : List Int), vs = [.ref k] ∧ KeyAt H CK k dk r d l S ns ∧
  ∀ (t : Addr) (S' : List (Int × Int)) H', Same H H' → S'.Perm S → (S'.map (·.1)).Pairwise (· ≤ ·) → Dp K H' (.ref t) (toldD r S' ns) → Q (.ref t) H'
def valI (S : List (Int × Int)) (m : Int) : Int := match valV (S.map entI) (Sum.inl m) with | some (.int v) => v | _ => 0
theorem back_perm {S : List (Int × Int)} (nd : (S.map (·.1)).Nodup) {ks : List Int} (pe : ks.Perm (S.map (·.1))) : (ks.map fun m => (m, valI S m)).Perm S := by
  have e : (S.map (·.1)).map (fun m => (m, valI S m)) = S := by
    rw [List.map_map]
    refine (List.map_congr_left (g := id) fun p hp => ?_).trans (List.map_id S)
    show (p.1, valI S p.1) = p
    unfold valI
    rw [ent_some nd hp]
  have := pe.map (fun m => (m, valI S m))
  rwa [e] at this
theorem lc_intsP {K : PySem.W.Frag} {H : Hp} : True := trivial
theorem sc_Key_told : FnScope ["self", "served", "member"] ["self"] (defScope s_Key_told) :=
  ⟨rfl, rfl, rfl, by decide +kernel, rfl, by decide +kernel, by decide +kernel⟩
theorem ok_told (F : Fun K "told" "Key.told" s_Key_told f fd) (T : BlK71 mg) (KT : KeyT K CK) : FnOk P w K mg base CX0 1 f fd ["self"] (spTold K CK) := by
  refine F.ok sc_Key_told (fun vs H Q E h => ?_) (fun cdv A outer s H vs Q E hr h => ?_)
  · obtain ⟨k, dk, r, d, l, S, ns, rfl, _⟩ := h
    rfl
  obtain ⟨k, dk, r, d, l, S, ns, rfl, A0, q⟩ := h
  refine ⟨_, (pss_cons (ps_set (i := 1) sc_Key_told.nd rfl (Or.inl rfl) (pe_callTy call_tuple_of (by rfl) T.tuple (by decide +kernel) (pa_cons (pe_lc (own := [("member", 2)]) (g := gName 2) (tt := tYes) (by rfl) sc_Key_told.nd (pi_list (pe_callB (call_sortedDI (by rfl)) (by rfl) T.sorted (by decide +kernel) (pa_cons (pe_fld (pv 0) (by rfl)) pa_nil))) (blkOk_by (N := ["self", "served", "member"]) (sc := defScope s_Key_told) (by decide +kernel)) (fun _ _ _ _ _ => pg_name (i := 2) sc_Key_told.nd rfl (Or.inl rfl)) (fun _ _ _ _ _ => pts_nil) (fun _ _ _ _ _ => (pe_tup (pa_cons (pv 2) (pa_cons (pe_dget (hu_of hr) (pe_fldK K (pv 0)) (pv 2) (fun _ _ => rfl)) pa_nil))))) pa_nil)))
    (pss_one (ps_ret (pe_tup (pa_cons (pe_fld (pv 0) (by rfl)) (pa_cons (pv 1) (pa_cons (pe_callTy call_tuple_of (by rfl) T.tuple (by decide +kernel) (pa_cons (pe_fld (pv 0) (by rfl)) pa_nil)) pa_nil))))))), ?_⟩
  refine ⟨_, rfl, k, CK, dk, _, _, rfl, A0.hp, KT.cl, KT.served, keF_srv _ _ _, d, _, S.map (·.1), rfl, .inl A0.hd, ?_, ?_, fun ks p pe up hp => ?_⟩
  · rw [List.map_map, List.map_map]
    rfl
  · rw [List.length_map]
    have := A0.few
    omega
  have s1 := same_upd (o := .lst (ks.map V.int)) hp
  have lk : ks.length ≤ 60 := by rw [pe.length_eq, List.length_map]; exact A0.few
  refine ⟨p, rfl, ⟨_, SqL.of upd_same⟩, fun D hD => ?_⟩
  refine lc_list (K := K) (a := p) (xs := ks.map V.int) (fun i G => Same (upd H p (.lst (ks.map V.int))) G ∧ ∃ zs, zs.length = i ∧ G D = some (.lst zs) ∧ DpAll K G zs (((ks.take i).map fun m => (m, valI S m)).map pairD)) ⟨same_upd hD, [], rfl, upd_same, .nil⟩ (fun i G _ h => SqL.of (h.1 _ _ upd_same)) ?_ ?_
  · rintro i x G hx ⟨sG, zs, lz, kD, dz⟩
    obtain ⟨m, em, rfl⟩ := ints_at hx
    have li := (List.getElem?_eq_some_iff.mp em).1
    have AG := (A0.same s1).same sG
    have ms : m ∈ S.map (·.1) := pe.mem_iff.mp (List.mem_of_getElem? em)
    obtain ⟨pr, hpr, rfl⟩ := List.mem_map.mp ms
    have ev := ent_some A0.nd hpr
    have ev2 : valI S pr.1 = pr.2 := by unfold valI; rw [ev]
    refine ⟨rfl, lc_yes ?_⟩
    refine ⟨_, rfl, _, rfl, k, CK, dk, _, _, rfl, AG.hp, KT.cl, KT.served, keF_srv _ _ _, _, rfl, d, _, rfl, (by rw [← ev]; exact DGet.k (k := Sum.inl pr.1) AG.hd), by show 2 ≤ sizeLine; decide, fun u hu => ?_⟩
    have s3 := same_upd (o := .tup [.int pr.1, .int pr.2]) hu
    have kD3 := s3 _ _ kD
    refine ⟨_, kD3, Nat.lt_of_lt_of_le (show zs.length < 100 by omega) (by decide), fun c o e => ?_, zs ++ [.ref u], by rw [List.length_append, lz]; rfl, upd_same, ?_⟩
    · rw [upd_ne (ne_of_none e hD)]
      exact s3 _ _ (sG _ _ e)
    · refine dps_chg ⟨_, kD3⟩ Chg.self _ _ (noLs_pairs _) ?_
      rw [List.take_succ, em, List.map_append, List.map_append]
      refine dps_app (dps_same s3 _ _ dz) (.cons (.tup (SqT.of upd_same) (.cons (.int _) (.cons ?_ .nil))) .nil)
      show Dp K _ (V.int pr.2) (PyData.int (valI S pr.1))
      rw [ev2]
      exact .int _
  rintro G ⟨sG, zs, lz, kD, dz⟩
  rw [List.length_map, List.take_length] at dz
  have AG := (A0.same s1).same sG
  refine ⟨D, zs, rfl, .inl ⟨SqL.of kD, fun u hu => ?_⟩⟩
  have s4 := same_upd (o := .tup zs) hu
  have A4 := AG.same s4
  refine ⟨_, rfl, k, CK, dk, _, _, rfl, A4.hp, KT.cl, KT.round, keF_rnd _ _ _, _, rfl, _, rfl, k, CK, dk, _, _, rfl, A4.hp, KT.cl, KT.line, keF_lin _ _ _, l, _, rfl, .inl ⟨SqL.of A4.hl, fun v hv => ?_⟩⟩
  have s5 := same_upd (o := .tup (ns.map V.int)) hv
  refine ⟨by show 3 ≤ sizeLine; decide, fun t ht => ?_⟩
  have s6 := same_upd (o := .tup [.int r, .ref u, .ref v]) ht
  refine q t (ks.map fun m => (m, valI S m)) _ ((((s1.trans sG).trans s4).trans s5).trans s6) (back_perm A0.nd pe) ?_ ?_
  · rw [List.map_map]
    have e : ((fun x : Int × Int => x.1) ∘ fun m => (m, valI S m)) = id := rfl
    rw [e, List.map_id]
    exact up
  · exact .tup (SqT.of upd_same) (.cons (.int _) (.cons (.tup (SqT.of (s6 _ _ (s5 _ _ upd_same))) (dps_same ((s4.trans s5).trans s6) _ _ dz)) (.cons (.tup (SqT.of (s6 _ _ upd_same)) (dps_ints _)) .nil)))
end

end G0
namespace G0
open PySem PySem.Spec PyProof.Rows L2 NdefX ClX
section
variable {P : Program} {w : World} {K : PySem.W.Frag} {mg : Str → Option Value} {base : Heap} {C CK f : Addr} {fd : FuncData}
/-! ### Seat.__init__, of an object of a class under it -/
def seatG (m : Int) : List (Str × V) := [("me", .int m), ("state", .str "out"), ("sits", .bl false)]
theorem seatG_made (m : Int) : putF "sits" (.bl false) (putF "state" (.str "out") (putF "me" (.int m) [])) = seatG m := by
  simp only [putF, seatG, n_caF_me_stt, n_caF_me_sits, n_caF_stt_sits, if_false, if_true]
def spSeat0 (C : Addr) : Sp := fun vs H Q _ => ∃ (p dx : Addr) (m : Int), vs = [.ref p, .int m] ∧ H p = some (.ins C dx []) ∧ Q .non (upd H p (.ins C dx (seatG m)))
theorem sc_Seat__init : FnScope ["self", "me"] ["self", "me"] (defScope s_Seat__init) :=
  ⟨rfl, rfl, rfl, by decide +kernel, rfl, by decide +kernel, by decide +kernel⟩
theorem ok_seat0 {f : Addr} {fd : FuncData} (F : Fun K "__init__" "Seat.__init__" s_Seat__init f fd) (c : Cls K C) (n1 : NoAttr K C "me") (n2 : NoAttr K C "state") (n3 : NoAttr K C "sits") : FnOk P w K mg base CX0 1 f fd ["self", "me"] (spSeat0 C) := by
  refine F.ok sc_Seat__init (fun vs H Q E h => ?_) (fun cdv A outer s H vs Q E hr h => ?_)
  · obtain ⟨p, dx, m, rfl, _⟩ := h
    rfl
  obtain ⟨p, dx, m, rfl, hp, q⟩ := h
  refine ⟨_, (pss_cons (ps_fld (pv 0) (pv 1) rfl)
    (pss_cons (ps_fld (pv 0) pe_str rfl)
    (pss_one (ps_fld (pv 0) pe_bl rfl)))), ?_⟩
  refine ⟨_, rfl, _, rfl, p, C, dx, _, rfl, hp, c, n1, (by show 0 < 1000; decide), ?_⟩
  refine ⟨_, rfl, p, C, dx, _, rfl, upd_same, c, n2, (by show 1 < 1000; decide), ?_⟩
  refine ⟨_, rfl, p, C, dx, _, rfl, upd_same, c, n3, (by show 2 < 1000; decide), ?_⟩
  rw [upd_upd, upd_upd, seatG_made]
  exact q
theorem fnR_of {k : Nat} {f : Addr} {fd : FuncData} {ps : List Str} {sp : Sp} (F : FnOk P w K mg base CX0 k f fd ps sp) (b : Binds K fd ps []) : FnR P w K mg base CX0 k f sp :=
  fun A outer s H us vs Q E hr e0 r h => by
    have hl : (us ++ []).length = ps.length := by rw [List.append_nil, ← r.length]; exact F.len _ _ _ _ h
    have KX : K.In s.heap := e0.mod.kin.keeps fun b o z => (e0.bs b o z).1
    have bt := b s us KX hl
    rw [List.append_nil] at bt
    exact F.run A outer s H ⟨us, []⟩ us vs Q E hr e0 bt r h
/-! ### a caller -/
structure BlC71 (mg : Str → Option Value) : Prop where
  len : mg "len" = none
  range : mg "range" = none
  list : mg "list" = none
  tuple : mg "tuple" = none
  sorted : mg "sorted" = none
  isinstance : mg "isinstance" = none
  int : mg "int" = none
  bool : mg "bool" = none
structure CalT (K : PySem.W.Frag) (C : Addr) : Prop where
  cl : Cls K C
  me : NoAttr K C "me"
  state : NoAttr K C "state"
  sits : NoAttr K C "sits"
  round : NoAttr K C "round"
  roster : NoAttr K C "_roster"
  numbers : NoAttr K C "_numbers"
  key : NoAttr K C "_key"
  begun : NoAttr K C "_begun"
  pledges : NoAttr K C "_pledges"
structure CalAt (H : Hp) (C q dx : Addr) (me : Int) (st : Str) (rnd : Int) (ro nu : Addr) (key bg : V) (pl : Addr) (rs ms : List Int) (ps : List (Key × V)) : Prop where
  hp : H q = some (.ins C dx (caF me st false rnd ro nu key bg pl))
  hr : H ro = some (.lst (rs.map V.int))
  hn : H nu = some (.lst (ms.map V.int))
  hpl : H pl = some (.dK ps)
theorem CalAt.same {H H' : Hp} {q dx : Addr} {me : Int} {st : Str} {rnd : Int} {ro nu : Addr} {key bg : V} {pl : Addr} {rs ms : List Int} {ps : List (Key × V)} (A : CalAt H C q dx me st rnd ro nu key bg pl rs ms ps) (s : Same H H') : CalAt H' C q dx me st rnd ro nu key bg pl rs ms ps :=
  ⟨s _ _ A.hp, s _ _ A.hr, s _ _ A.hn, s _ _ A.hpl⟩
def rangeI (n : Int) : List Int := (List.range n.toNat).map fun x : Nat => (x : Int)
def zeros (n : Int) : List Int := List.replicate n.toNat 0
def freshS (n : Int) : List (Int × Int) := (rangeI n).map fun m => (m, 0)
/-- the key of a new caller: none, or that of round 0 -/
def FreshKey (H : Hp) (CK : Addr) (n : Int) (key : V) (b : Bool) (Z : Addr → Prop) : Prop := if b = true then ∃ k dk d l, key = .ref k ∧ KeyAt H CK k dk 0 d l (freshS n) [] ∧ Z l else key = .non
theorem FreshKey.same {H H' : Hp} {n : Int} {key : V} {b : Bool} {Z : Addr → Prop} (h : FreshKey H CK n key b Z) (s : Same H H') : FreshKey H' CK n key b Z := by
  unfold FreshKey at h ⊢
  cases b with
  | true =>
    rw [if_pos rfl] at h ⊢
    obtain ⟨k, dk, d, l, e, A, z⟩ := h
    exact ⟨k, dk, d, l, e, A.same s, z⟩
  | false => exact h
theorem caF_end (m : Int) (ro nu : Addr) (key : V) (pl : Addr) : putF "_pledges" (.ref pl) (putF "_begun" .non (putF "_key" key (putF "_numbers" (.ref nu) (putF "_roster" (.ref ro) (putF "round" (.int 0) (seatG m)))))) = caF m "out" false 0 ro nu key .non pl :=
  caF_made m "out" false 0 ro nu key .non pl
theorem FreshKey.imp {H : Hp} {n : Int} {key : V} {b : Bool} {Z : Addr → Prop} (h : FreshKey H CK n key b Z) : FreshKey H CK n key b (fun _ => True) := by
  unfold FreshKey at h ⊢
  cases b with
  | true =>
    rw [if_pos rfl] at h ⊢
    obtain ⟨k, dk, d, l, e, A, z⟩ := h
    exact ⟨k, dk, d, l, e, A, trivial⟩
  | false => exact h
theorem putF_twice (x : Str) (a b : V) (fs : List (Str × V)) : putF x b (putF x a fs) = putF x b fs := by
  induction fs with
  | nil => simp [putF]
  | cons p fs ih =>
    obtain ⟨y, v⟩ := p
    by_cases c : y = x
    · simp [putF, c]
    · simp only [putF, c, if_false, ih]
theorem rgV_range {n : Int} : rgV 0 n = (rangeI n).map V.int := by
  unfold rgV rangeI
  rw [List.map_map, Int.sub_zero]
  refine List.map_congr_left fun i _ => ?_
  show V.int (0 + (i : Int)) = V.int (i : Int)
  rw [Int.zero_add]
theorem flat_zero : ∀ k : Nat, (List.replicate k [V.int 0]).flatten = (List.replicate k (0 : Int)).map V.int
  | 0 => rfl
  | k + 1 => by
    rw [List.replicate_succ, List.flatten_cons, flat_zero k, List.replicate_succ, List.map_cons]
    rfl
theorem rangeI_len {n : Int} : (rangeI n).length = n.toNat := by unfold rangeI; rw [List.length_map, List.length_range]
theorem freshS_fst (n : Int) : (freshS n).map (·.1) = rangeI n := by
  unfold freshS
  rw [List.map_map]
  exact List.map_id _
theorem rangeI_nd (n : Int) : (rangeI n).Nodup := List.pairwise_map.mpr (List.Pairwise.imp (fun h e => h (by omega)) List.nodup_range)
theorem KeyAt.chg {H H' : Hp} {k dk p D dx : Addr} {fs : List (Str × V)} {r : Int} {d l : Addr} {S : List (Int × Int)} {ns : List Int} (A : KeyAt H CK k dk r d l S ns) (hp : H p = some (.ins D dx fs)) (n : k ≠ p) (c : Chg p H H') : KeyAt H' CK k dk r d l S ns :=
  { A with hp := c _ _ n A.hp, hd := c _ _ (ne_of A.hd hp (by intro z; cases z)) A.hd, hl := c _ _ (ne_of A.hl hp (by intro z; cases z)) A.hl }
def spCInit (K : PySem.W.Frag) (C CK : Addr) : Sp := fun vs H Q _ => ∃ (p dx : Addr) (m n a : Int), vs = [.ref p, .int m, .int n, .int a] ∧ H p = some (.ins C dx []) ∧ 1 ≤ n ∧ n ≤ 60 ∧
  ∀ (ro nu pl : Addr) (key : V) H', Chg p H H' → H ro = none → H nu = none → H pl = none → CalAt H' C p dx m "out" 0 ro nu key .non pl (rangeI n) (zeros n) [] → FreshKey H' CK n key (decide (m = a)) (fun l => H l = none) → Q .non H'
/-- the last two fields -/
theorem cinit_end {H G : Hp} {p dx ro nu pl : Addr} {m n : Int} {key : V} {b : Bool} {Z : Addr → Prop} {Q : VK} {fs : List (Str × V)} (efs : fs = putF "_key" key (putF "_numbers" (.ref nu) (putF "_roster" (.ref ro) (putF "round" (.int 0) (seatG m)))))
    (c : Chg p H G) (kp : G p = some (.ins C dx fs)) (kr : G ro = some (.lst ((rangeI n).map V.int))) (kn : G nu = some (.lst ((zeros n).map V.int))) (fk : FreshKey G CK n key b Z) (nk : key ≠ .ref p)
    (hpl : upd G p (.ins C dx (putF "_begun" .non fs)) pl = none) (ro0 : H ro = none) (nu0 : H nu = none)
    (q : ∀ (pl : Addr) (key : V) H', Chg p H H' → H pl = none → CalAt H' C p dx m "out" 0 ro nu key .non pl (rangeI n) (zeros n) [] → FreshKey H' CK n key b Z → Q .non H') :
    Q .non (upd (upd (upd G p (.ins C dx (putF "_begun" .non fs))) pl (.dK [])) p (.ins C dx (putF "_pledges" (.ref pl) (putF "_begun" .non fs)))) := by
  have pp : pl ≠ p := fun z => by rw [z, upd_same] at hpl; cases hpl
  have hplG : G pl = none := by rw [upd_ne pp] at hpl; exact hpl
  have rp : ro ≠ p := ne_of kr kp (by intro z; cases z)
  have np : nu ≠ p := ne_of kn kp (by intro z; cases z)
  have rl : ro ≠ pl := ne_of_none kr hplG
  have nl : nu ≠ pl := ne_of_none kn hplG
  have cc : Chg p G (upd (upd (upd G p (.ins C dx (putF "_begun" .non fs))) pl (.dK [])) p (.ins C dx (putF "_pledges" (.ref pl) (putF "_begun" .non fs)))) := fun b o nb e => by
    rw [upd_ne nb, upd_ne (ne_of_none e hplG), upd_ne nb]; exact e
  refine q pl key _ (c.trans cc) (Chg.back c hplG pp) ⟨?_, cc _ _ rp kr, cc _ _ np kn, by rw [upd_ne pp, upd_same]⟩ ?_
  · rw [upd_same, efs, caF_end]
  · unfold FreshKey at fk ⊢
    cases b with
    | true =>
      rw [if_pos rfl] at fk ⊢
      obtain ⟨k, dk, d, l, e, A, z⟩ := fk
      exact ⟨k, dk, d, l, e, A.chg kp (fun z => nk (by rw [e, z])) cc, z⟩
    | false => exact fk
theorem ok_cinit {f cc cda D f2 fK : Addr} {fdK : FuncData} {dV kV doc pm ct oc cl : Value} {v : Option Value} {an od cld : Option Addr} {osl csl : Array (Option Value)} (T : BlC71 mg)
    (lk : K.lookup f = some ⟨oc, od, .func (PySem.W.ksFn "__init__" "Caller.__init__" (defArgs s_Caller__init) (defBody s_Caller__init) (defScope s_Caller__init) dV kV doc pm an (.ref cda) ct cc), osl⟩)
    (coded : PySem.W.codeIn K (.ref cda) "Caller.__init__" = true) (lc : K.lookup cc = some ⟨cl, cld, .cell v, csl⟩)
    (F : SupF P K ["self", "me", "seats", "first", "__class__", "seat"] f cc cda D (PySem.W.ksFn "__init__" "Caller.__init__" (defArgs s_Caller__init) (defBody s_Caller__init) (defScope s_Caller__init) dV kV doc pm an (.ref cda) ct cc) (defArgs s_Caller__init) (defScope s_Caller__init))
    (F2 : FnR P w K mg base CX0 1 f2 (spSeat0 C)) (S : CalT K C) (mro : PySem.W.mroIn K C (.ref D) = some true) (su : PySem.W.ks_superIn K C D "__init__" = some (some (.ref f2))) (ty : PySem.W.typeIn K (.ref f2) = some (.type "function")) (fi : PySem.W.fnIn K f2 = true)
    (KKm : Mk K CK fK) (GK : FnOk P w K mg base CX0 1 fK fdK ["self", "of_round", "served", "line"] (spKInit K CK)) (bK : Binds K fdK ["self", "of_round", "served", "line"] []) (gK : mg "Key" = some (.ref CK)) :
    FnOk P w K mg base CX0 3 f (PySem.W.ksFn "__init__" "Caller.__init__" (defArgs s_Caller__init) (defBody s_Caller__init) (defScope s_Caller__init) dV kV doc pm an (.ref cda) ct cc) ["self", "me", "seats", "first"] (spCInit K C CK) := by
  have NS : NScope ["self", "me", "seats", "first", "__class__", "seat"] ["self", "me", "seats", "first"] ["__class__"] (defScope s_Caller__init) := nscope_by (by decide +kernel)
  refine fnS_of lk coded lc NS ?_ fun A outer s H vs Q E hr h => ?_
  · rintro vs H Q E ⟨p, dx, m, n, a, rfl, _⟩
    rfl
  obtain ⟨p, dx, m, n, a, rfl, hp, n0, n1, q⟩ := h
  refine ⟨_, _, p1_supM F F2 (hr.mono (by decide)) (pa_cons (pv 1 (by rfl) (.inl (NS.par _ (by simp)))) pa_nil), (pss_cons (ps_fld (pv 0) pe_int rfl)
    (pss_cons (ps_fld (pv 0) (pe_listRg (by rfl) (by rfl) T.list (prg_1 (by rfl) T.range (pv 2))) rfl)
    (pss_cons (ps_fld (pv 0) (pe_op op_rep (pe_lst (pa_cons pe_int pa_nil)) (pv 2)) rfl)
    (pss_cons (ps_fld (pv 0) pe_non rfl)
    (pss_cons (ps_if (pt_cmpR op_eq (pv 1) (pv 3) (nomark _))
    (pss_one (ps_fld (pv 0) (pe_make KKm GK hr (by rfl) gK bK .nil pass0 (pa_cons pe_int (pa_cons (pe_lc (own := [("seat", 5)]) (g := gName 5) (tt := tYes) (by rfl) NS.nd (pi_range1 (by rfl) T.range (pa_cons (pv 2) pa_nil)) (blkOk_by (N := ["self", "me", "seats", "first", "__class__", "seat"]) (sc := defScope s_Caller__init) (by decide +kernel)) (fun _ _ _ _ _ => pg_name (i := 5) NS.nd rfl (Or.inl rfl)) (fun _ _ _ _ _ => pts_nil) (fun _ _ _ _ _ => (pe_tup (pa_cons (pv 5) (pa_cons pe_int pa_nil))))) (pa_cons (pe_lst pa_nil) pa_nil)))) rfl))
    pss_nil)
    (pss_cons (ps_fld (pv 0) pe_non rfl)
    (pss_one (ps_fld (pv 0) pe_dnewK rfl)))))))), ?_⟩
  have p0 : H p ≠ none := by rw [hp]; exact fun z => nomatch z
  refine ⟨p, C, dx, [], rfl, hp, mro, su, ty, fi, _, rfl, p, dx, m, rfl, hp, ?_⟩
  refine ⟨_, rfl, p, C, dx, _, rfl, upd_same, S.cl, S.round, (by show 3 < 1000; decide), ?_⟩
  rw [upd_upd]
  obtain ⟨H1, e1⟩ : ∃ H1, H1 = upd H p (.ins C dx (putF "round" (.int 0) (seatG m))) := ⟨_, rfl⟩
  have c1 : Chg p H H1 := by rw [e1]; exact Chg.self
  have k1 : H1 p = some (.ins C dx (putF "round" (.int 0) (seatG m))) := by rw [e1]; exact upd_same
  rw [← e1]
  clear e1
  refine ⟨_, rfl, n, rfl, RgOk.of_le (by decide) (by omega) (by decide) (by omega), fun ro hro => ?_⟩
  have rp : ro ≠ p := (ne_of_none k1 hro).symm
  have c2 : Chg p H (upd H1 ro (.lst (rgV 0 n))) := c1.trans (Chg.same (same_upd hro))
  refine ⟨_, rfl, p, C, dx, _, rfl, (upd_ne rp.symm).trans k1, S.cl, S.roster, (by show 4 < 1000; decide), ?_⟩
  obtain ⟨H2, e2⟩ : ∃ H2, H2 = upd (upd H1 ro (.lst (rgV 0 n))) p (.ins C dx (putF "_roster" (.ref ro) (putF "round" (.int 0) (seatG m)))) := ⟨_, rfl⟩
  have c3 : Chg p H H2 := by rw [e2]; exact c2.trans Chg.self
  have k2 : H2 p = some (.ins C dx (putF "_roster" (.ref ro) (putF "round" (.int 0) (seatG m)))) := by rw [e2]; exact upd_same
  have r2 : H2 ro = some (.lst ((rangeI n).map V.int)) := by rw [e2, upd_ne rp, upd_same, rgV_range]
  have ro0 : H ro = none := Chg.back c1 hro rp
  rw [← e2]
  clear e2 c2 c1 k1 hro
  refine ⟨by show 1 ≤ sizeLine; decide, fun z hz => ?_⟩
  refine ⟨_, rfl, z, n, _, rfl, rfl, upd_same, by omega, by omega, ?_, fun nu hnu => ?_⟩
  · rw [List.length_singleton, Nat.one_mul]
    exact Nat.le_trans (show n.toNat ≤ 60 by omega) (by decide)
  have sz := (same_upd (o := .lst [.int 0]) hz).trans (same_upd (o := .lst (List.replicate n.toNat [V.int 0]).flatten) hnu)
  have np : nu ≠ p := (ne_of_none (same_upd hz _ _ k2) hnu).symm
  have rn : ro ≠ nu := ne_of_none (same_upd hz _ _ r2) hnu
  have nu0 : H nu = none := Chg.back c3 ((same_upd hz).free hnu) np
  refine ⟨_, rfl, p, C, dx, _, rfl, sz _ _ k2, S.cl, S.numbers, (by show 5 < 1000; decide), ?_⟩
  obtain ⟨H3, e3⟩ : ∃ H3, H3 = upd (upd (upd H2 z (.lst [.int 0])) nu (.lst (List.replicate n.toNat [V.int 0]).flatten)) p (.ins C dx (putF "_numbers" (.ref nu) (putF "_roster" (.ref ro) (putF "round" (.int 0) (seatG m))))) := ⟨_, rfl⟩
  have c4 : Chg p H H3 := by rw [e3]; exact (c3.trans (Chg.same sz)).trans Chg.self
  have k3 : H3 p = some (.ins C dx (putF "_numbers" (.ref nu) (putF "_roster" (.ref ro) (putF "round" (.int 0) (seatG m))))) := by rw [e3]; exact upd_same
  have r3 : H3 ro = some (.lst ((rangeI n).map V.int)) := by rw [e3, upd_ne rp]; exact sz _ _ r2
  have n3 : H3 nu = some (.lst ((zeros n).map V.int)) := by rw [e3, upd_ne np, upd_same, flat_zero]; rfl
  rw [← e3]
  clear e3 c3 k2 r2 hnu hz sz
  refine ⟨_, rfl, p, C, dx, _, rfl, k3, S.cl, S.key, (by show 6 < 1000; decide), ?_⟩
  obtain ⟨H4, e4⟩ : ∃ H4, H4 = upd H3 p (.ins C dx (putF "_key" .non (putF "_numbers" (.ref nu) (putF "_roster" (.ref ro) (putF "round" (.int 0) (seatG m)))))) := ⟨_, rfl⟩
  have c5 : Chg p H H4 := by rw [e4]; exact c4.trans Chg.self
  have k4 : H4 p = some (.ins C dx (putF "_key" .non (putF "_numbers" (.ref nu) (putF "_roster" (.ref ro) (putF "round" (.int 0) (seatG m)))))) := by rw [e4]; exact upd_same
  have r4 : H4 ro = some (.lst ((rangeI n).map V.int)) := by rw [e4, upd_ne rp]; exact r3
  have n4 : H4 nu = some (.lst ((zeros n).map V.int)) := by rw [e4, upd_ne np]; exact n3
  rw [← e4]
  clear e4 c4 k3 r3 n3
  refine ⟨_, rfl, _, rfl, rfl, _, rfl, ?_⟩
  rw [dec_ii]
  refine ite2 (fun c => ?_) (fun c => ?_)
  · refine ⟨_, rfl, _, rfl, by omega, by omega, fun D hD => ?_⟩
    refine lc_range (lo := 0) (n := n.toNat) (fun i G => Same H4 G ∧ ∃ zs, zs.length = i ∧ G D = some (.lst zs) ∧ DpAll K G zs (((List.range i).map fun x : Nat => ((x : Int), (0 : Int))).map pairD)) ⟨same_upd hD, [], rfl, upd_same, .nil⟩ ?_ ?_
    · rintro i G hi ⟨sG, zs, lz, kD, dz⟩
      refine ⟨rfl, lc_yes ?_⟩
      refine ⟨_, rfl, by show 2 ≤ sizeLine; decide, fun u hu => ?_⟩
      have s3 := same_upd (o := .tup [.int (0 + (i : Int)), .int 0]) hu
      have kD3 := s3 _ _ kD
      refine ⟨_, kD3, Nat.lt_of_lt_of_le (show zs.length < 100 by omega) (by decide), fun c o e => ?_, zs ++ [.ref u], by rw [List.length_append, lz]; rfl, upd_same, ?_⟩
      · rw [upd_ne (ne_of_none e hD)]
        exact s3 _ _ (sG _ _ e)
      · refine dps_chg ⟨_, kD3⟩ Chg.self _ _ (noLs_pairs _) ?_
        rw [List.range_succ, List.map_append, List.map_append]
        exact dps_app (dps_same s3 _ _ dz) (.cons (.tup (SqT.of upd_same) (.cons (by rw [Int.zero_add]; exact .int _) (.cons (.int _) .nil))) .nil)
    rintro G ⟨sG, zs, lz, kD, dz⟩
    refine ⟨Nat.zero_le _, fun e he => ?_⟩
    have s5 := same_upd (o := .lst []) he
    refine fun x dx' hx hdx ne => ?_
    have kp5 := s5 _ _ (sG _ _ k4)
    obtain ⟨H6, e6⟩ : ∃ H6, H6 = upd (upd (upd G e (.lst [])) dx' (.own x)) x (.ins CK dx' []) := ⟨_, rfl⟩
    have s6 : Same H4 H6 := by
      rw [e6]
      exact (sG.trans s5).trans ((same_upd hdx).trans (same_upd (by rw [upd_ne ne.symm]; exact hx)))
    have s6' : Same (upd G e (.lst [])) H6 := by
      rw [e6]
      exact (same_upd hdx).trans (same_upd (by rw [upd_ne ne.symm]; exact hx))
    have kx6 : H6 x = some (.ins CK dx' []) := by rw [e6]; exact upd_same
    rw [← e6]
    clear e6
    have ds6 : DpAll K H6 zs ((freshS n).map pairD) := by
      have := dps_same s6' _ _ (dps_same s5 _ _ dz)
      unfold freshS rangeI
      rw [List.map_map (g := fun m : Int => (m, (0 : Int)))]
      exact this
    refine ⟨x, dx', D, e, 0, zs, freshS n, [], rfl, kx6, SqL.of (s6' _ _ (s5 _ _ kD)), ds6, SqL.of (s6' _ _ upd_same), ?_, ?_, by show 0 ≤ 1000; decide, fun d l H7 hd hl dne lne dl c7 KA => ⟨rfl, ?_⟩⟩
    · rw [freshS_fst]; exact rangeI_nd n
    · unfold freshS
      rw [List.length_map, rangeI_len]; omega
    have px : p ≠ x := ne_of_none kp5 hx
    have k7 := c7 _ _ px (s6 _ _ k4)
    refine ⟨_, rfl, p, C, dx, _, rfl, k7, S.cl, S.key, (by show 7 < 1000; decide), ?_⟩
    rw [putF_twice]
    refine ⟨_, rfl, p, C, dx, _, rfl, upd_same, S.cl, S.begun, (by show 7 < 1000; decide), ?_⟩
    have rx : ro ≠ p := rp
    have c9 : Chg p H7 (upd H7 p (.ins C dx (putF "_key" (.ref x) (putF "_numbers" (.ref nu) (putF "_roster" (.ref ro) (putF "round" (.int 0) (seatG m))))))) := Chg.self
    have rr : ro ≠ x := ne_of (s6 _ _ r4) kx6 (by intro z; cases z)
    have nr : nu ≠ x := ne_of (s6 _ _ n4) kx6 (by intro z; cases z)
    refine fun pl hpl => ?_
    have pp : pl ≠ p := fun z => by rw [z, upd_same] at hpl; cases hpl
    refine ⟨_, rfl, p, C, dx, _, rfl, (upd_ne pp.symm).trans upd_same, S.cl, S.pledges, (by show 8 < 1000; decide), ?_⟩
    have x4 : H4 x = none := (sG.trans s5).free hx
    have c7' : Chg p H H7 := fun b o nb e => c7 _ _ (ne_of_none (c5 _ _ nb e) x4) (s6 _ _ (c5 _ _ nb e))
    have ct : decide (m = a) = true := c
    refine cinit_end (b := decide (m = a)) (Z := fun l => H l = none) rfl (c7'.trans c9) upd_same ((upd_ne rp).trans (c7 _ _ rr (s6 _ _ r4))) ((upd_ne np).trans (c7 _ _ nr (s6 _ _ n4))) ?_ (fun z => px (V.ref.inj z).symm) hpl ro0 nu0 fun pl key H' a1 a2 a3 a4 => q ro nu pl key H' a1 ro0 nu0 a2 a3 a4
    · unfold FreshKey
      rw [ct, if_pos rfl]
      exact ⟨x, dx', d, l, rfl, KA.chg k7 px.symm c9, Chg.back c5 (s6.free hl) (ne_of_none (s6 _ _ k4) hl).symm⟩
  · refine ⟨_, rfl, p, C, dx, _, rfl, k4, S.cl, S.begun, (by show 7 < 1000; decide), ?_⟩
    refine fun pl hpl => ?_
    have pp : pl ≠ p := fun z => by rw [z, upd_same] at hpl; cases hpl
    refine ⟨_, rfl, p, C, dx, _, rfl, (upd_ne pp.symm).trans upd_same, S.cl, S.pledges, (by show 8 < 1000; decide), ?_⟩
    have cf : decide (m = a) = false := by simpa using c
    exact cinit_end (b := decide (m = a)) (Z := fun l => H l = none) rfl c5 k4 r4 n4 (by unfold FreshKey; rw [cf]; rfl) (fun z => nomatch z) hpl ro0 nu0 fun pl key H' a1 a2 a3 a4 => q ro nu pl key H' a1 ro0 nu0 a2 a3 a4
end

end G0
namespace G0
open PySem PySem.Spec PyProof.Rows L2 NdefX ClX
section
variable {P : Program} {w : World} {K : PySem.W.Frag} {mg : Str → Option Value} {base : Heap} {C CK f : Addr} {fd : FuncData}
/-! ### what a caller tells -/
def spBears (K : PySem.W.Frag) (C CK : Addr) : Sp := fun vs H Q _ => ∃ (q dx : Addr) (me : Int) (st : Str) (rnd : Int) (ro nu : Addr) (key bg : V) (pl : Addr) (rs ms : List Int) (ps : List (Key × V)), vs = [.ref q] ∧ CalAt H C q dx me st rnd ro nu key bg pl rs ms ps ∧
  ((key = .non ∧ Q .non H) ∨ ∃ k dk r d l S ns, key = .ref k ∧ KeyAt H CK k dk r d l S ns ∧ ∀ (t : Addr) (S' : List (Int × Int)) H', Same H H' → S'.Perm S → (S'.map (·.1)).Pairwise (· ≤ ·) → Dp K H' (.ref t) (toldD r S' ns) → Q (.ref t) H')
theorem sc_Caller_bears : FnScope ["self"] ["self"] (defScope s_Caller_bears) :=
  ⟨rfl, rfl, rfl, by decide +kernel, rfl, by decide +kernel, by decide +kernel⟩
theorem ok_bears (F : Fun K "bears" "Caller.bears" s_Caller_bears f fd) (S : CalT K C) (KT : KeyT K CK) (MT : Me P w K mg base CK "told" 1 ["self"] (spTold K CK)) : FnOk P w K mg base CX0 2 f fd ["self"] (spBears K C CK) := by
  obtain ⟨fT, fdT, GT, bT, mT⟩ := MT
  refine F.ok sc_Caller_bears (fun vs H Q E h => ?_) (fun cdv A outer s H vs Q E hr h => ?_)
  · obtain ⟨q, _, _, _, _, _, _, _, _, _, _, _, _, rfl, _⟩ := h
    rfl
  obtain ⟨q, dx, me, st, rnd, ro, nu, key, bg, pl, rs, ms, ps, rfl, A0, h⟩ := h
  refine ⟨_, (pss_cons (ps_if (pt_cmpR op_isN (pe_fld (pv 0) (by rfl)) pe_non (nomark _))
    (pss_one (ps_ret pe_non))
    pss_nil)
    (pss_one (ps_ret (pe_meth0 (pe_fld (pv 0) (by rfl)) KT.cl mT GT hr bT .nil pass0)))), ?_⟩
  refine ⟨_, rfl, q, C, dx, _, _, rfl, A0.hp, S.cl, S.key, caF_key _ _ _ _ _ _ _ _ _, rfl, _, rfl, ?_⟩
  rcases h with ⟨rfl, h⟩ | ⟨k, dk, r, d, l, SS, ns, rfl, KA, h⟩
  · exact iteT' rfl h
  · refine iteF' rfl ?_
    refine ⟨_, rfl, q, C, dx, _, _, rfl, A0.hp, S.cl, S.key, caF_key _ _ _ _ _ _ _ _ _, k, dk, _, rfl, KA.hp, keF_no _ _ _ (by decide +kernel) (by decide +kernel) (by decide +kernel), k, dk, r, d, l, SS, ns, rfl, KA, h⟩
def spRos (C : Addr) : Sp := fun vs H Q _ => ∃ (q dx : Addr) (me : Int) (st : Str) (rnd : Int) (ro nu : Addr) (key bg : V) (pl : Addr) (rs ms : List Int) (ps : List (Key × V)), vs = [.ref q] ∧ CalAt H C q dx me st rnd ro nu key bg pl rs ms ps ∧ ∀ l, H l = none → Q (.ref l) (upd H l (.lst (rs.map V.int)))
theorem sc_Caller_roster : FnScope ["self"] ["self"] (defScope s_Caller_roster) :=
  ⟨rfl, rfl, rfl, by decide +kernel, rfl, by decide +kernel, by decide +kernel⟩
theorem ok_roster (F : Fun K "roster" "Caller.roster" s_Caller_roster f fd) (T : BlC71 mg) (S : CalT K C) : FnOk P w K mg base CX0 1 f fd ["self"] (spRos C) := by
  refine F.ok sc_Caller_roster (fun vs H Q E h => ?_) (fun cdv A outer s H vs Q E hr h => ?_)
  · obtain ⟨q, _, _, _, _, _, _, _, _, _, _, _, _, rfl, _⟩ := h
    rfl
  obtain ⟨q, dx, me, st, rnd, ro, nu, key, bg, pl, rs, ms, ps, rfl, A0, h⟩ := h
  refine ⟨_, (pss_one (ps_ret (pe_callTy call_list_of (by rfl) T.list (by decide +kernel) (pa_cons (pe_fld (pv 0) (by rfl)) pa_nil)))), ?_⟩
  exact ⟨_, rfl, q, C, dx, _, _, rfl, A0.hp, S.cl, S.roster, caF_ros _ _ _ _ _ _ _ _ _, ro, _, rfl, .inl (SqL.of A0.hr), fun l hl => h l hl⟩
def spNum (C : Addr) : Sp := fun vs H Q _ => ∃ (q dx : Addr) (me : Int) (st : Str) (rnd : Int) (ro nu : Addr) (key bg : V) (pl : Addr) (rs ms : List Int) (ps : List (Key × V)), vs = [.ref q] ∧ CalAt H C q dx me st rnd ro nu key bg pl rs ms ps ∧ ∀ l, H l = none → Q (.ref l) (upd H l (.lst (ms.map V.int)))
theorem sc_Caller_numbers : FnScope ["self"] ["self"] (defScope s_Caller_numbers) :=
  ⟨rfl, rfl, rfl, by decide +kernel, rfl, by decide +kernel, by decide +kernel⟩
theorem ok_numbers (F : Fun K "numbers" "Caller.numbers" s_Caller_numbers f fd) (T : BlC71 mg) (S : CalT K C) : FnOk P w K mg base CX0 1 f fd ["self"] (spNum C) := by
  refine F.ok sc_Caller_numbers (fun vs H Q E h => ?_) (fun cdv A outer s H vs Q E hr h => ?_)
  · obtain ⟨q, _, _, _, _, _, _, _, _, _, _, _, _, rfl, _⟩ := h
    rfl
  obtain ⟨q, dx, me, st, rnd, ro, nu, key, bg, pl, rs, ms, ps, rfl, A0, h⟩ := h
  refine ⟨_, (pss_one (ps_ret (pe_callTy call_list_of (by rfl) T.list (by decide +kernel) (pa_cons (pe_fld (pv 0) (by rfl)) pa_nil)))), ?_⟩
  exact ⟨_, rfl, q, C, dx, _, _, rfl, A0.hp, S.cl, S.numbers, caF_nms _ _ _ _ _ _ _ _ _, nu, _, rfl, .inl (SqL.of A0.hn), fun l hl => h l hl⟩
end

end G0
namespace G0
open PySem PySem.Spec PyProof.Rows L2
/-! ### data that is the same -/
mutual
theorem eqv_self : ∀ d : PyData, PyData.canLay0 d = true → PyData.eqv d d = true
  | .none, _ => by simp [PyData.eqv]
  | .bool b, _ => by simp [PyData.eqv]
  | .int i, _ => by simp [PyData.eqv]
  | .str z, _ => by simp [PyData.eqv]
  | .dict _, h => by simp [PyData.canLay0] at h
  | .list ds, h => by
    simp only [PyData.eqv]
    exact eqvs_self ds (by simpa [PyData.canLay0] using h)
  | .tuple ds, h => by
    simp only [PyData.eqv]
    exact eqvs_self ds (by simpa [PyData.canLay0] using h)
theorem eqvs_self : ∀ ds : List PyData, PyData.canLayAll0 ds = true → PyData.eqvAll ds ds = true
  | [], _ => by simp [PyData.eqvAll]
  | d :: ds, h => by
    simp only [PyData.canLayAll0, Bool.and_eq_true] at h
    simp only [PyData.eqvAll, eqv_self d h.1, eqvs_self ds h.2, Bool.and_true]
end
theorem eqv_shaped {d : PyData} (h : SeqAt.shaped d = true) : PyData.eqv d d = true := eqv_self d (Bool.and_eq_true_iff.mp h).1
theorem shaped_pair {z : Str} (h : PyData.strOk z = true) (i : Int) : SeqAt.shaped (.tuple [.str z, .int i]) = true := by
  show ((PyData.tuple [.str z, .int i]).canLay0 && decide ((PyData.tuple [.str z, .int i]).depth ≤ 64)) = true
  simp [PyData.canLay0, PyData.canLayAll0, PyData.depth, PyData.depthAll, h]
end G0
namespace G0
open PySem PySem.Spec PyProof.Rows L2 NdefX ClX
section
variable {P : Program} {w : World} {K : PySem.W.Frag} {mg : Str → Option Value} {base : Heap} {C CK f : Addr} {fd : FuncData}
/-! ### Key: serve, take_first, line_up -/
theorem ent_val {S : List (Int × Int)} {m v : Int} (h : valV (S.map entI) (Sum.inl m) = some (.int v)) : (m, v) ∈ S := by
  induction S with
  | nil => cases h
  | cons q S ih =>
    rw [List.map_cons] at h
    by_cases c : q.1 = m
    · rw [show entI q = (Sum.inl m, V.int q.2) by unfold entI; rw [c], valV_pos rfl] at h
      have : q.2 = v := by cases h; rfl
      rw [← c, ← this]
      exact List.mem_cons_self ..
    · rw [show entI q = (Sum.inl q.1, V.int q.2) from rfl, valV_neg (fun e => c (Sum.inl.inj e))] at h
      exact List.mem_cons_of_mem _ (ih h)
theorem ent_is {S : List (Int × Int)} (m : Int) : valV (S.map entI) (Sum.inl m) = none ∨ ∃ v, valV (S.map entI) (Sum.inl m) = some (.int v) ∧ (m, v) ∈ S := by
  cases h : valV (S.map entI) (Sum.inl m) with
  | none => exact .inl rfl
  | some u =>
    refine .inr ?_
    have : ∃ v, u = V.int v := by
      induction S with
      | nil => cases h
      | cons q S ih =>
        rw [List.map_cons] at h
        by_cases c : q.1 = m
        · rw [show entI q = (Sum.inl m, V.int q.2) by unfold entI; rw [c], valV_pos rfl] at h
          cases h
          exact ⟨_, rfl⟩
        · rw [show entI q = (Sum.inl q.1, V.int q.2) from rfl, valV_neg (fun e => c (Sum.inl.inj e))] at h
          exact ih h
    obtain ⟨v, rfl⟩ := this
    exact ⟨v, rfl, ent_val h⟩
/-- the number of a member that is served, changed -/
def srvS (S : List (Int × Int)) (m v : Int) : List (Int × Int) := S.map fun p => if p.1 = m then (m, v) else p
theorem srvS_fst (S : List (Int × Int)) (m v : Int) : (srvS S m v).map (·.1) = S.map (·.1) := by
  unfold srvS
  rw [List.map_map]
  refine List.map_congr_left fun p _ => ?_
  show (if p.1 = m then (m, v) else p).1 = p.1
  split
  · next h => exact h.symm
  · rfl
theorem put_ent {S : List (Int × Int)} {m v : Int} (h : m ∈ S.map (·.1)) : putK (S.map entI) (Sum.inl m) (.int v) = (srvS S m v).map entI := by
  have any : (valV (S.map entI) (Sum.inl m)).isSome = true := by
    rcases ent_is (S := S) m with z | ⟨u, z, _⟩
    · exfalso
      clear v
      induction S with
      | nil => exact absurd h List.not_mem_nil
      | cons q S ih =>
        rw [List.map_cons] at z h
        by_cases c : q.1 = m
        · rw [show entI q = (Sum.inl m, V.int q.2) by unfold entI; rw [c], valV_pos rfl] at z
          cases z
        · rw [show entI q = (Sum.inl q.1, V.int q.2) from rfl, valV_neg (fun e => c (Sum.inl.inj e))] at z
          rcases List.mem_cons.mp h with e | h
          · exact c e.symm
          · exact ih h z
    · rw [z]; rfl
  unfold putK
  rw [valV_any, if_pos any]
  unfold srvS
  rw [List.map_map, List.map_map]
  refine List.map_congr_left fun p _ => ?_
  show (if (entI p).1 = Sum.inl m then ((entI p).1, V.int v) else entI p) = entI (if p.1 = m then (m, v) else p)
  by_cases c : p.1 = m
  · rw [if_pos c, if_pos (show (entI p).1 = Sum.inl m by unfold entI; rw [c])]
    unfold entI
    rw [c]
  · rw [if_neg c, if_neg (show ¬ (entI p).1 = Sum.inl m from fun e => c (Sum.inl.inj e))]
def spServe (CK : Addr) : Sp := fun vs H Q _ => ∃ (k dk : Addr) (r m v : Int) (d l : Addr) (S : List (Int × Int)) (ns : List Int), vs = [.ref k, .int m, .int v] ∧ KeyAt H CK k dk r d l S ns ∧ m ∈ S.map (·.1) ∧ Q .non (upd H d (.dK ((srvS S m v).map entI)))
theorem sc_Key_serve : FnScope ["self", "member", "number"] ["self", "member", "number"] (defScope s_Key_serve) :=
  ⟨rfl, rfl, rfl, by decide +kernel, rfl, by decide +kernel, by decide +kernel⟩
theorem ok_serve (F : Fun K "serve" "Key.serve" s_Key_serve f fd) (KT : KeyT K CK) : FnOk P w K mg base CX0 1 f fd ["self", "member", "number"] (spServe CK) := by
  refine F.ok sc_Key_serve (fun vs H Q E h => ?_) (fun cdv A outer s H vs Q E hr h => ?_)
  · obtain ⟨k, dk, r, m, v, d, l, S, ns, rfl, _⟩ := h
    rfl
  obtain ⟨k, dk, r, m, v, d, l, S, ns, rfl, A0, hm, q⟩ := h
  refine ⟨_, (pss_one (ps_asg (pv 2) (pg_sub (pe_fld (pv 0) (by rfl)) (pv 1) (set_dict (hu_of hr))))), ?_⟩
  refine ⟨_, rfl, _, rfl, k, CK, dk, _, _, rfl, A0.hp, KT.cl, KT.served, keF_srv _ _ _, _, rfl, d, _, rfl, .inl ⟨_, Sum.inl m, A0.hd, rfl, ?_, rfl⟩, ?_⟩
  · rw [List.length_map]
    exact Nat.lt_of_le_of_lt A0.few (by decide)
  · rw [put_ent hm]
    exact q
def spTake (CK : Addr) : Sp := fun vs H Q _ => ∃ (k dk : Addr) (r : Int) (d l : Addr) (S : List (Int × Int)) (ns : List Int), vs = [.ref k] ∧ KeyAt H CK k dk r d l S ns ∧
  ((ns = [] ∧ Q .non H) ∨ ∃ t rest, ns = t :: rest ∧ Q (.int t) (upd H l (.lst (rest.map V.int))))
structure BlL72 (mg : Str → Option Value) : Prop where
  len : mg "len" = none
theorem sc_Key_take_first : FnScope ["self"] ["self"] (defScope s_Key_take_first) :=
  ⟨rfl, rfl, rfl, by decide +kernel, rfl, by decide +kernel, by decide +kernel⟩
theorem ok_take (F : Fun K "take_first" "Key.take_first" s_Key_take_first f fd) (T : BlL72 mg) (KT : KeyT K CK) : FnOk P w K mg base CX0 1 f fd ["self"] (spTake CK) := by
  refine F.ok sc_Key_take_first (fun vs H Q E h => ?_) (fun cdv A outer s H vs Q E hr h => ?_)
  · obtain ⟨k, dk, r, d, l, S, ns, rfl, _⟩ := h
    rfl
  obtain ⟨k, dk, r, d, l, S, ns, rfl, A0, two⟩ := h
  refine ⟨_, (pss_cons (ps_if (pt_cmpR op_eq (pe_callB call_len_seq (by rfl) T.len (by decide +kernel) (pa_cons (pe_fld (pv 0) (by rfl)) pa_nil)) pe_int (nomark _))
    (pss_one (ps_ret pe_non))
    pss_nil)
    (pss_one (ps_ret (pe_bm PySem.F.plainAttrs_list PySem.F.slot_list_pop PySem.F.type_list_pop mt_popAt (pe_fld (pv 0) (by rfl)) (pa_cons pe_int pa_nil))))), ?_⟩
  refine ⟨_, rfl, k, CK, dk, _, _, rfl, A0.hp, KT.cl, KT.line, keF_lin _ _ _, l, _, rfl, .inl (SqL.of A0.hl), rfl, _, rfl, ?_⟩
  rcases two with ⟨rfl, q⟩ | ⟨t, rest, rfl, q⟩
  · refine iteT' (by simp) ?_
    exact q
  · refine iteF' (by simp; omega) ?_
    refine ⟨_, rfl, k, CK, dk, _, _, rfl, A0.hp, KT.cl, KT.line, keF_lin _ _ _, .inl ⟨rfl, _, SqL.of A0.hl⟩, l, _, 0, 0, _, rfl, rfl, A0.hl, by decide, by decide, ?_, rfl, ?_⟩
    · simp [seqIndex?]
    · exact q
/-- is a member due -/
def dueS (S : List (Int × Int)) (m v : Int) : Bool := match valV (S.map entI) (Sum.inl m) with | some (.int u) => decide (u < v) | _ => false
def spDue (CK : Addr) : Sp := fun vs H Q _ => ∃ (k dk : Addr) (r m v : Int) (d l : Addr) (S : List (Int × Int)) (ns : List Int), vs = [.ref k, .int m, .int v] ∧ KeyAt H CK k dk r d l S ns ∧ Q (.bl (dueS S m v)) H
theorem sc_Key_is_due : FnScope ["self", "member", "number"] ["self", "member", "number"] (defScope s_Key_is_due) :=
  ⟨rfl, rfl, rfl, by decide +kernel, rfl, by decide +kernel, by decide +kernel⟩
theorem ok_due (F : Fun K "_is_due" "Key._is_due" s_Key_is_due f fd) (KT : KeyT K CK) : FnOk P w K mg base CX0 1 f fd ["self", "member", "number"] (spDue CK) := by
  refine F.ok sc_Key_is_due (fun vs H Q E h => ?_) (fun cdv A outer s H vs Q E hr h => ?_)
  · obtain ⟨k, dk, r, m, v, d, l, S, ns, rfl, _⟩ := h
    rfl
  obtain ⟨k, dk, r, m, v, d, l, S, ns, rfl, A0, q⟩ := h
  refine ⟨_, (pss_one (ps_ret (pe_and (pe_cmp (pc_din (hu_of hr) (pv 1) (pe_fld (pv 0) (by rfl)))) (pe_one (pe_cmpR op_gt (pv 2) (pe_dget (hu_of hr) (pe_fld (pv 0) (by rfl)) (pv 1) (fun _ _ => rfl)) (nomark _)))))), ?_⟩
  refine ⟨_, rfl, _, rfl, k, CK, dk, _, _, rfl, A0.hp, KT.cl, KT.served, keF_srv _ _ _, d, _, rfl, .inl ⟨_, Sum.inl m, .inl A0.hd, rfl, rfl⟩, ?_⟩
  unfold dueS at q
  rcases ent_is (S := S) m with z | ⟨u, z, _⟩
  · rw [z] at q ⊢
    exact ⟨_, rfl, iteF q⟩
  · rw [z] at q ⊢
    refine ⟨_, rfl, iteT ?_⟩
    exact ⟨_, rfl, _, rfl, k, CK, dk, _, _, rfl, A0.hp, KT.cl, KT.served, keF_srv _ _ _, _, rfl, d, _, rfl, .inl ⟨_, Sum.inl m, .inl A0.hd, rfl, z.symm⟩, _, _, rfl, rfl, q⟩
end

end G0
namespace G0
open PySem PySem.Spec PyProof.Rows L2 NdefX ClX
section
variable {P : Program} {w : World} {K : PySem.W.Frag} {mg : Str → Option Value} {base : Heap} {C CK f : Addr} {fd : FuncData}
/-! ### Key.line_up -/
def ordR (rs : List Int) (b : Int) : List Int := (rs.filter fun m => decide (b < m)) ++ rs.filter fun m => decide (m ≤ b)
def keepL (ns rs : List Int) : List Int := ns.filter fun m => decide (m ∈ rs)
def lineUp (b : Int) (rs ms : List Int) (S : List (Int × Int)) (ns : List Int) : List Int := keepL ns rs ++ (ordR rs b).filter fun m => !decide (m ∈ keepL ns rs) && dueS S m (ms.getD m.toNat 0)
theorem ordR_nd {rs : List Int} {b : Int} (h : rs.Nodup) : (ordR rs b).Nodup := by
  unfold ordR
  rw [List.nodup_append]
  refine ⟨h.filter _, h.filter _, fun x hx y hy e => ?_⟩
  have h1 := (List.mem_filter.mp hx).2
  have h2 := (List.mem_filter.mp hy).2
  rw [e] at h1
  have := of_decide_eq_true h1
  have := of_decide_eq_true h2
  omega
theorem ordR_mem {rs : List Int} {b m : Int} : m ∈ ordR rs b ↔ m ∈ rs := by
  unfold ordR
  rw [List.mem_append, List.mem_filter, List.mem_filter]
  constructor
  · rintro (h | h) <;> exact h.1
  · intro h
    rcases Int.lt_or_le b m with c | c
    · exact .inl ⟨h, decide_eq_true c⟩
    · exact .inr ⟨h, decide_eq_true c⟩
theorem ordR_len {rs : List Int} {b : Int} : (ordR rs b).length ≤ 2 * rs.length := by
  unfold ordR
  rw [List.length_append]
  have h1 := List.length_filter_le (fun m => decide (b < m)) rs
  have h2 := List.length_filter_le (fun m => decide (m ≤ b)) rs
  omega
def spLineUp (CK : Addr) : Sp := fun vs H Q _ => ∃ (k dk ro nu : Addr) (r b : Int) (d l : Addr) (S : List (Int × Int)) (ns rs ms : List Int), vs = [.ref k, .int b, .ref ro, .ref nu] ∧ KeyAt H CK k dk r d l S ns ∧ H ro = some (.lst (rs.map V.int)) ∧ H nu = some (.lst (ms.map V.int)) ∧
  rs.Nodup ∧ (∀ m ∈ rs, 0 ≤ m ∧ m < ms.length) ∧ rs.length ≤ 60 ∧ ns.length ≤ 500 ∧ ∀ l' H', H l' = none → Chg k H H' → KeyAt H' CK k dk r d l' S (lineUp b rs ms S ns) → Q .non H'
theorem sc_Key_line_up : FnScope ["self", "behind", "roster", "numbers", "line", "member", "later", "sooner"] ["self", "behind", "roster", "numbers"] (defScope s_Key_line_up) :=
  ⟨rfl, rfl, rfl, by decide +kernel, rfl, by decide +kernel, by decide +kernel⟩
theorem ok_lineup (F : Fun K "line_up" "Key.line_up" s_Key_line_up f fd) (KT : KeyT K CK) (MD : Me P w K mg base CK "_is_due" 1 ["self", "member", "number"] (spDue CK)) : FnOk P w K mg base CX0 2 f fd ["self", "behind", "roster", "numbers"] (spLineUp CK) := by
  obtain ⟨fD, fdD, GD, bD, mD⟩ := MD
  refine F.ok sc_Key_line_up (fun vs H Q E h => ?_) (fun cdv A outer s H vs Q E hr h => ?_)
  · obtain ⟨k, dk, ro, nu, r, b, d, l, S, ns, rs, ms, rfl, _⟩ := h
    rfl
  obtain ⟨k, dk, ro, nu, r, b, d, l, S, ns, rs, ms, rfl, A0, hro, hnu, nd, bnd, l60, l500, q⟩ := h
  refine ⟨_, (pss_cons (ps_setLc (i := 4) (own := [("member", 5)]) (g := gName 5)  (by rfl) sc_Key_line_up.nd rfl rfl (sw_true rfl rfl rfl (by decide +kernel)) (pi_list (pe_fld (pv 0) (by rfl))) (blkOk_by (N := ["self", "behind", "roster", "numbers", "line", "member", "later", "sooner"]) (sc := defScope s_Key_line_up) (by decide +kernel)) (fun _ _ _ _ _ => pg_name (i := 5) sc_Key_line_up.nd rfl (Or.inl rfl)) (fun _ _ _ _ _ => pts_one (pt_cmpR (u_inK K) (pv 5) (pv 2) (by rfl))) (fun _ _ _ _ _ => (pv 5)))
    (pss_cons (ps_setLc (i := 6) (own := [("member", 5)]) (g := gName 5)  (by rfl) sc_Key_line_up.nd rfl rfl (sw_true rfl rfl rfl (by decide +kernel)) (pi_list (pv 2)) (blkOk_by (N := ["self", "behind", "roster", "numbers", "line", "member", "later", "sooner"]) (sc := defScope s_Key_line_up) (by decide +kernel)) (fun _ _ _ _ _ => pg_name (i := 5) sc_Key_line_up.nd rfl (Or.inl rfl)) (fun _ _ _ _ _ => pts_one (pt_cmpR op_gt (pv 5) (pv 1) (nomark _))) (fun _ _ _ _ _ => (pv 5)))
    (pss_cons (ps_setLc (i := 7) (own := [("member", 5)]) (g := gName 5)  (by rfl) sc_Key_line_up.nd rfl rfl (sw_true rfl rfl rfl (by decide +kernel)) (pi_list (pv 2)) (blkOk_by (N := ["self", "behind", "roster", "numbers", "line", "member", "later", "sooner"]) (sc := defScope s_Key_line_up) (by decide +kernel)) (fun _ _ _ _ _ => pg_name (i := 5) sc_Key_line_up.nd rfl (Or.inl rfl)) (fun _ _ _ _ _ => pts_one (pt_cmpR op_le (pv 5) (pv 1) (nomark _))) (fun _ _ _ _ _ => (pv 5)))
    (pss_cons (ps_for PassesOwn.never rfl (pi_list (pe_op op_cat (pv 6) (pv 7))) (pg_name (i := 5) sc_Key_line_up.nd rfl (Or.inl rfl))
    (pss_one (ps_if (PW.pt (pw_and (pt_cmpR u_notin (pv 5) (pv 4) (by rfl)) (pw_and1 (pt_val (pe_meth (pv 0) KT.cl mD GD hr bD .nil pass0 (pa_cons (pv 5) (pa_cons (pe_ix ix_list (pv 3) (pv 5) (fun _ _ => rfl)) pa_nil)))))))
    (pss_one (ps_expr (pe_bm PySem.F.plainAttrs_list PySem.F.slot_list_append PySem.F.type_list_append mt_append (pv 4) (pa_cons (pv 5) pa_nil))))
    pss_nil)))
    (pss_one (ps_fld (pv 0) (pv 4) rfl)))))), ?_⟩
  refine ⟨_, rfl, k, CK, dk, _, _, rfl, A0.hp, KT.cl, KT.line, keF_lin _ _ _, l, rfl, ⟨_, SqL.of A0.hl⟩, fun D hD => ?_⟩
  refine lc_filtI (K := K) (a := l) (ns := ns) (fun m => decide (m ∈ rs)) (by omega) hD (SqL.of A0.hl) (fun i x G Y B hx sG h => ?_) (fun G1 s1 kD => ?_)
  · refine ⟨rfl, _, rfl, _, rfl, .inl ⟨ro, _, rfl, .inl (SqL.of (sG _ _ hro)), rfl, flat_ints _, _, rfl, ?_⟩⟩
    exact tst (by rw [inV_ints]; rfl) (fun y => ⟨_, rfl, y⟩) h
  have kD : G1 D = some (.lst ((keepL ns rs).map V.int)) := kD
  have hro1 := s1 _ _ hro
  refine ⟨_, rfl, ro, rfl, ⟨_, SqL.of hro1⟩, fun D2 hD2 => ?_⟩
  refine lc_filtI (K := K) (a := ro) (ns := rs) (fun m => decide (b < m)) (by omega) hD2 (SqL.of hro1) (fun i x G Y B hx sG h => ?_) (fun G2 sG2 kD2 => ?_)
  · refine ⟨rfl, _, rfl, _, rfl, _, _, rfl, rfl, _, rfl, ?_⟩
    exact tst rfl (fun y => ⟨_, rfl, y⟩) h
  have s12 := s1.trans sG2
  have hro2 := s12 _ _ hro
  refine ⟨_, rfl, ro, rfl, ⟨_, SqL.of hro2⟩, fun D3 hD3 => ?_⟩
  refine lc_filtI (K := K) (a := ro) (ns := rs) (fun m => decide (m ≤ b)) (by omega) hD3 (SqL.of hro2) (fun i x G Y B hx sG h => ?_) (fun G3 sG3 kD3 => ?_)
  · refine ⟨rfl, _, rfl, _, rfl, _, _, rfl, rfl, _, rfl, ?_⟩
    exact tst rfl (fun y => ⟨_, rfl, y⟩) h
  have s13 := s12.trans sG3
  have kD2' := sG3 _ _ kD2
  have l1 := ordR_len (rs := rs) (b := b)
  have lkeep : (keepL ns rs).length ≤ ns.length := List.length_filter_le _ _
  refine ⟨_, rfl, _, rfl, D2, D3, _, _, rfl, rfl, kD2', kD3, ?_, fun E1 hE1 => ?_⟩
  · rw [List.length_map, List.length_map]
    have h1 := List.length_filter_le (fun m => decide (b < m)) rs
    have h2 := List.length_filter_le (fun m => decide (m ≤ b)) rs
    exact Nat.le_trans (show _ ≤ 1000 by omega) (by decide)
  have eO : (rs.filter fun m => decide (b < m)).map V.int ++ (rs.filter fun m => decide (m ≤ b)).map V.int = (ordR rs b).map V.int := by unfold ordR; rw [List.map_append]
  rw [eO]
  have sE := same_upd (o := .lst ((ordR rs b).map V.int)) hE1
  have s14 := s13.trans sE
  have kD4 := sE _ _ (sG3 _ _ (sG2 _ _ kD))
  obtain ⟨G4, e4⟩ : ∃ G4, G4 = upd G3 E1 (.lst ((ordR rs b).map V.int)) := ⟨_, rfl⟩
  have kE4 : G4 E1 = some (.lst ((ordR rs b).map V.int)) := by rw [e4]; exact upd_same
  rw [← e4] at s14 kD4
  rw [← e4]
  have D0 : H D = none := hD
  have DE : E1 ≠ D := by
    have := sG3 _ _ (sG2 _ _ kD)
    exact (ne_of_none this hE1).symm
  refine ⟨E1, rfl, ⟨_, SqL.of kE4⟩, ?_⟩
  obtain ⟨qf, eqf⟩ : ∃ qf : Int → Bool, qf = fun m => !decide (m ∈ keepL ns rs) && dueS S m (ms.getD m.toNat 0) := ⟨_, rfl⟩
  refine for_list (K := K) (a := E1) (xs := (ordR rs b).map V.int) (fun i σ G => (∃ z5 : Option V, σ = [some (V.ref k), some (V.int b), some (V.ref ro), some (V.ref nu), some (V.ref D), z5, some (V.ref D2), some (V.ref D3)]) ∧ Same H G ∧ G E1 = some (.lst ((ordR rs b).map V.int)) ∧ G D = some (.lst ((keepL ns rs ++ ((ordR rs b).take i).filter qf).map V.int))) ⟨⟨_, rfl⟩, s14, kE4, by simpa using kD4⟩ (fun i σ G _ h => SqL.of h.2.2.1) ?_ ?_
  · rintro i x σ G hx ⟨⟨z5, rfl⟩, sG, kE, kD⟩
    obtain ⟨m, hm, rfl⟩ := ints_at' hx
    have mO := List.mem_of_getElem? hm
    obtain ⟨m0, m1⟩ := bnd m (ordR_mem.mp mO)
    have li := (List.getElem?_eq_some_iff.mp hm).1
    have nin : m ∉ (ordR rs b).take i := fun z => by
      obtain ⟨j, lj, ej⟩ := List.mem_take_iff_getElem.mp z
      have h1 : (ordR rs b)[j]? = some m := by rw [List.getElem?_eq_getElem (by omega), ej]
      have := (List.getElem?_inj (by omega) (ordR_nd (b := b) nd)).mp (h1.trans hm.symm)
      omega
    have eM : decide (m ∈ keepL ns rs ++ ((ordR rs b).take i).filter qf) = decide (m ∈ keepL ns rs) := decide_eq_decide.mpr ⟨fun h => by
      rcases List.mem_append.mp h with z | z
      · exact z
      · exact absurd (List.mem_filter.mp z).1 nin, fun h => List.mem_append.mpr (.inl h)⟩
    have A1 := A0.same sG
    have hnuG := sG _ _ hnu
    have ln := (keepL ns rs ++ ((ordR rs b).take i).filter qf).length
    have llen : (keepL ns rs ++ ((ordR rs b).take i).filter qf).length < 1000 := by
      rw [List.length_append]
      have := Nat.le_trans (List.length_filter_le qf ((ordR rs b).take i)) (by rw [List.length_take]; exact Nat.min_le_right _ _)
      omega
    rw [filt_next qf hm]
    refine ⟨_, rfl, _, rfl, .inl ⟨D, _, rfl, .inl (SqL.of kD), rfl, flat_ints _, _, rfl, ?_⟩⟩
    rw [inV_ints, eM]
    by_cases cK : m ∈ keepL ns rs
    · have q0 : qf m = false := by rw [eqf]; simp [cK]
      refine iteF' (by simp [cK]) ?_
      rw [q0, if_neg (by decide), List.append_nil]
      exact ⟨⟨_, rfl⟩, sG, kE, kD⟩
    · refine iteT' (by simp [cK]) ?_
      obtain ⟨j, ej⟩ : ∃ j : Nat, m = (j : Int) := ⟨m.toNat, by omega⟩
      have jl : j < ms.length := by omega
      have atm : atI (ms.map V.int) m = some (.int (ms.getD m.toNat 0)) := by
        rw [ej]
        refine atI_nat ?_
        rw [List.getElem?_map, List.getElem?_eq_getElem jl, show ((j : Int)).toNat = j from rfl, List.getD_eq_getElem?_getD, List.getElem?_eq_getElem jl]
        rfl
      have q1 : qf m = dueS S m (ms.getD m.toNat 0) := by rw [eqf]; simp [cK]
      refine ⟨_, rfl, k, dk, _, rfl, A1.hp, keF_no _ _ _ (by decide +kernel) (by decide +kernel) (by decide +kernel), _, rfl, _, rfl, _, rfl, nu, _, _, _, rfl, rfl, SqL.of hnuG, atm, k, dk, r, m, _, d, l, S, ns, rfl, A1, _, rfl, ?_⟩
      rw [← q1]
      cases hq : qf m with
      | true =>
        refine iteT ?_
        rw [if_pos rfl]
        refine ⟨_, rfl, .inl ⟨rfl, _, SqL.of kD⟩, _, rfl, D, _, _, rfl, rfl, kD, by rw [List.length_map]; exact Nat.lt_of_lt_of_le llen (by decide), ?_⟩
        refine ⟨⟨_, rfl⟩, fun c o e => ?_, (upd_ne DE).trans kE, ?_⟩
        · rw [upd_ne (ne_of_none e D0)]
          exact sG _ _ e
        · rw [upd_same, ← List.append_assoc, List.map_append (l₂ := [m])]
          rfl
      | false =>
        refine iteF ?_
        rw [if_neg (by decide), List.append_nil]
        exact ⟨⟨_, rfl⟩, sG, kE, kD⟩
  · rintro σ G ⟨⟨z5, rfl⟩, sG, kE, kD⟩
    rw [List.length_map, List.take_length] at kD
    have A1 := A0.same sG
    have Dk : D ≠ k := (ne_of_none A0.hp D0).symm
    refine ⟨_, rfl, _, rfl, k, CK, dk, _, rfl, A1.hp, KT.cl, KT.line, (by show 3 < 1000; decide), ?_⟩
    rw [keF_put_lin]
    have eL : lineUp b rs ms S ns = keepL ns rs ++ (ordR rs b).filter qf := by rw [eqf]; rfl
    have cI : Chg k H (upd G k (.ins CK dk (keF r d D))) := (Chg.same sG).trans Chg.self
    refine q D _ D0 cI ⟨upd_same, cI _ _ (ne_of A0.hd A0.hp (by intro z; cases z)) A0.hd, by rw [upd_ne Dk, eL]; exact kD, A0.nd, A0.few, ?_⟩
    rw [eL, List.length_append]
    have := List.length_filter_le qf (ordR rs b)
    omega
end

end G0
namespace G0
open PySem PySem.Spec PyProof.Rows L2 NdefX ClX
section
variable {P : Program} {w : World} {K : PySem.W.Frag} {mg : Str → Option Value} {base : Heap} {C CK f : Addr} {fd : FuncData}
/-! ### a caller's letters to all others; what it learns -/
theorem cat_anyk {H : Hp} {a b : Addr} {xs ys : List V} {Q : VK} (h1 : SqT K H a xs) (h2 : SqT K H b ys) (l : xs.length + ys.length ≤ 10000)
    (q : ∀ r H', Same H H' → SqT K H' r (xs ++ ys) → Q (.ref r) H') : rCatA K (.ref a) (.ref b) H Q := by
  refine ⟨a, b, xs, ys, rfl, rfl, h1, h2, Nat.le_trans l (by decide), fun e => ?_, fun _ e => ?_, fun _ _ r hr => q r _ (same_upd hr) (SqT.of upd_same)⟩
  · subst e
    exact q b H (Same.refl H) h2
  · subst e
    exact q a H (Same.refl H) (by rw [List.append_nil]; exact h1)
def toD (d : PyData) (s : Int) : PyData := .tuple [.int s, d]
theorem noL_to {d : PyData} (h : noL d = true) (s : Int) : noL (toD d s) = true := by simp [toD, noL, noLs, h]
def othR (rs : List Int) (me : Int) : List Int := rs.filter fun s => !decide (s = me)
structure BlM72 (mg : Str → Option Value) : Prop where
  len : mg "len" = none
  max : mg "max" = none
theorem CalAt.no {H : Hp} {q dx : Addr} {me : Int} {st : Str} {rnd : Int} {ro nu : Addr} {key bg : V} {pl : Addr} {rs ms : List Int} {ps : List (Key × V)} (A : CalAt H C q dx me st rnd ro nu key bg pl rs ms ps) (x : Str)
    (h1 : x ≠ "me" := by decide +kernel) (h2 : x ≠ "state" := by decide +kernel) (h3 : x ≠ "sits" := by decide +kernel) (h4 : x ≠ "round" := by decide +kernel) (h5 : x ≠ "_roster" := by decide +kernel) (h6 : x ≠ "_numbers" := by decide +kernel) (h7 : x ≠ "_key" := by decide +kernel) (h8 : x ≠ "_begun" := by decide +kernel) (h9 : x ≠ "_pledges" := by decide +kernel) :
    H q = some (.ins C dx (caF me st false rnd ro nu key bg pl)) ∧ (caF me st false rnd ro nu key bg pl).lookup x = none := ⟨A.hp, caF_no _ _ _ _ _ _ _ _ _ h1 h2 h3 h4 h5 h6 h7 h8 h9⟩
def spToO (K : PySem.W.Frag) (C : Addr) : Sp := fun vs H Q _ => ∃ (q dx lt ro nu pl : Addr) (me rnd : Int) (st : Str) (key bg : V) (rs ms : List Int) (ps : List (Key × V)) (dl : PyData), vs = [.ref q, .ref lt] ∧ CalAt H C q dx me st rnd ro nu key bg pl rs ms ps ∧ Dp K H (.ref lt) dl ∧ noL dl = true ∧ rs.length ≤ 60 ∧
  ∀ l zs H', Same H H' → H' l = some (.lst zs) → DpAll K H' zs ((othR rs me).map (toD dl)) → Q (.ref l) H'
theorem sc_Caller_to_others : FnScope ["self", "letter", "seat"] ["self", "letter"] (defScope s_Caller_to_others) :=
  ⟨rfl, rfl, rfl, by decide +kernel, rfl, by decide +kernel, by decide +kernel⟩
theorem ok_tooth (F : Fun K "_to_others" "Caller._to_others" s_Caller_to_others f fd) (S : CalT K C) : FnOk P w K mg base CX0 1 f fd ["self", "letter"] (spToO K C) := by
  refine F.ok sc_Caller_to_others (fun vs H Q E h => ?_) (fun cdv A outer s H vs Q E hr h => ?_)
  · obtain ⟨q, dx, lt, _, _, _, _, _, _, _, _, _, _, _, _, rfl, _⟩ := h
    rfl
  obtain ⟨q, dx, lt, ro, nu, pl, me, rnd, st, key, bg, rs, ms, ps, dl, rfl, A0, hl, nl, l60, k⟩ := h
  refine ⟨_, (pss_one (ps_ret (pe_lc (own := [("seat", 2)]) (g := gName 2)  (by rfl) sc_Caller_to_others.nd (pi_list (pe_fld (pv 0) (by rfl))) (blkOk_by (N := ["self", "letter", "seat"]) (sc := defScope s_Caller_to_others) (by decide +kernel)) (fun _ _ _ _ _ => pg_name (i := 2) sc_Caller_to_others.nd rfl (Or.inl rfl)) (fun _ _ _ _ _ => pts_one (pt_cmpR op_ne (pv 2) (pe_fldK K (pv 0)) (nomark _))) (fun _ _ _ _ _ => (pe_tup (pa_cons (pv 2) (pa_cons (pv 1) pa_nil))))))), ?_⟩
  refine ⟨_, rfl, q, C, dx, _, _, rfl, A0.hp, S.cl, S.roster, caF_ros _ _ _ _ _ _ _ _ _, ro, rfl, ⟨_, SqL.of A0.hr⟩, fun D hD => ?_⟩
  refine lc_dataI (K := K) (a := ro) (ns := rs) (fun s => !decide (s = me)) (toD dl) (by omega) (fun x _ => noL_to nl x) hD (SqL.of A0.hr) (fun i x G Y B hx sG h1 h2 => ?_) (fun G zs sG kD dz => k D zs G sG kD dz)
  have A1 := A0.same sG
  refine ⟨rfl, _, rfl, _, rfl, q, C, dx, _, _, rfl, A1.hp, S.cl, S.me, caF_me _ _ _ _ _ _ _ _ _, rfl, _, rfl, ?_⟩
  rw [dec_ii]
  cases c : (!decide (x = me)) with
  | true =>
    refine iteT ?_
    refine ⟨_, rfl, _, rfl, by show 2 ≤ sizeLine; decide, fun t ht => h1 c (.ref t) _ (same_upd ht) (.tup (SqT.of upd_same) (.cons (.int x) (.cons (dp_same (sG.trans (same_upd ht)) _ _ hl) .nil)))⟩
  | false => exact iteF (h2 c)
def learn (ms : List Int) (s v : Int) : List Int := ms.set s.toNat (if v > ms.getD s.toNat 0 then v else ms.getD s.toNat 0)
theorem learn_len {ms : List Int} {s v : Int} : (learn ms s v).length = ms.length := List.length_set
theorem ix_n {j n : Nat} (h : j < n) : ixN n (j : Int) = some j := by
  unfold ixN
  rw [if_pos (by omega), if_pos (by omega)]
  simp
theorem at_ms {ms : List Int} {s : Int} (h0 : 0 ≤ s) (h1 : s < ms.length) : atI (ms.map V.int) s = some (.int (ms.getD s.toNat 0)) := by
  obtain ⟨j, ej⟩ : ∃ j : Nat, s = (j : Int) := ⟨s.toNat, by omega⟩
  rw [ej]
  refine atI_nat ?_
  rw [List.getElem?_map, List.getElem?_eq_getElem (show j < ms.length by omega), show ((j : Int)).toNat = j from rfl, List.getD_eq_getElem?_getD, List.getElem?_eq_getElem (show j < ms.length by omega)]
  rfl
def spLearn (C : Addr) : Sp := fun vs H Q _ => ∃ (q dx ro nu pl : Addr) (me rnd s v : Int) (st : Str) (key bg : V) (rs ms : List Int) (ps : List (Key × V)), vs = [.ref q, .int s, .int v] ∧ CalAt H C q dx me st rnd ro nu key bg pl rs ms ps ∧ 0 ≤ s ∧ s < ms.length ∧
  Q .non (upd H nu (.lst ((learn ms s v).map V.int)))
theorem sc_Caller_learn : FnScope ["self", "seat", "number"] ["self", "seat", "number"] (defScope s_Caller_learn) :=
  ⟨rfl, rfl, rfl, by decide +kernel, rfl, by decide +kernel, by decide +kernel⟩
theorem ok_learn (F : Fun K "_learn" "Caller._learn" s_Caller_learn f fd) (T : BlM72 mg) (S : CalT K C) : FnOk P w K mg base CX0 1 f fd ["self", "seat", "number"] (spLearn C) := by
  refine F.ok sc_Caller_learn (fun vs H Q E h => ?_) (fun cdv A outer s H vs Q E hr h => ?_)
  · obtain ⟨q, dx, _, _, _, _, _, _, _, _, _, _, _, _, _, rfl, _⟩ := h
    rfl
  obtain ⟨q, dx, ro, nu, pl, me, rnd, s', v, st, key, bg, rs, ms, ps, rfl, A0, h0, h1, k⟩ := h
  refine ⟨_, (pss_one (ps_asg (pe_callB (call_max2 rfl) (by rfl) T.max (by decide +kernel) (pa_cons (pe_ix ix_list (pe_fld (pv 0) (by rfl)) (pv 1) (fun _ _ => rfl)) (pa_cons (pv 2) pa_nil))) (pg_sub (pe_fld (pv 0) (by rfl)) (pv 1) set_list))), ?_⟩
  have att := at_ms h0 h1
  refine ⟨_, rfl, q, C, dx, _, _, rfl, A0.hp, S.cl, S.numbers, caF_nms _ _ _ _ _ _ _ _ _, _, rfl, nu, _, _, _, rfl, rfl, SqL.of A0.hn, att, _, rfl, _, _, rfl, ?_⟩
  obtain ⟨j, ej⟩ : ∃ j : Nat, s' = (j : Int) := ⟨s'.toNat, by omega⟩
  refine ⟨_, rfl, q, C, dx, _, _, rfl, A0.hp, S.cl, S.numbers, caF_nms _ _ _ _ _ _ _ _ _, _, rfl, nu, _, _, s'.toNat, rfl, rfl, A0.hn, (by rw [List.length_map, ej]; exact ix_n (by omega)), ?_⟩
  unfold learn at k
  rw [List.map_set] at k
  exact k
end

end G0
namespace G0
open PySem PySem.Spec PyProof.Rows L2 NdefX ClX
section
variable {P : Program} {w : World} {K : PySem.W.Frag} {mg : Str → Option Value} {base : Heap} {C CK f : Addr} {fd : FuncData}
/-! ### handing on -/
def keyD (r : Int) (S : List (Int × Int)) (ns : List Int) : PyData := .tuple [.str "key", .int r, .tuple (S.map pairD), .tuple (ns.map PyData.int)]
theorem ca_ne_ke {C CK q k dx dk : Addr} {H : Hp} {me : Int} {st : Str} {rnd : Int} {ro nu : Addr} {key bg : V} {pl : Addr} {r : Int} {d l : Addr} (h1 : H q = some (.ins C dx (caF me st false rnd ro nu key bg pl))) (h2 : H k = some (.ins CK dk (keF r d l))) : q ≠ k := fun e => by
  rw [e, h2] at h1
  have h3 := Option.some.inj h1
  injection h3 with _ _ h4
  have := congrArg List.length h4
  simp [caF, keF] at this
/-- what is handed on: by the line ln -/
structure HandK (K : PySem.W.Frag) (C CK : Addr) (H : Hp) (Q : VK) (A : List Addr) (q dx k dk ro nu pl d : Addr) (me rnd r : Int) (st : Str) (bg : V) (rs ms : List Int) (ps : List (Key × V)) (S : List (Int × Int)) (ln : List Int) : Prop where
  none : ln = [] → ∀ z l' H', ChgS A H H' → H l' = .none → CalAt H' C q dx me st rnd ro nu (.ref k) bg pl rs ms ps → KeyAt H' CK k dk r d l' S [] → H' z = some (.lst []) → Q (.ref z) H'
  self : ∀ rest, ln = me :: rest → ∀ z l' H', ChgS A H H' → H l' = .none → CalAt H' C q dx me "in" rnd ro nu (.ref k) bg pl rs ms ps → KeyAt H' CK k dk r d l' S rest → H' z = some (.lst []) → Q (.ref z) H'
  give : ∀ t rest, ln = t :: rest → t ≠ me → ∀ z zs S' H', ChgS A H H' → CalAt H' C q dx me st rnd ro nu .non bg pl rs ms ps → S'.Perm S → (S'.map (·.1)).Pairwise (· ≤ ·) → H' z = some (.lst zs) → DpAll K H' zs [toD (keyD r S' rest) t] → Q (.ref z) H'
def spHandOn (K : PySem.W.Frag) (C CK : Addr) : Sp := fun vs H Q _ => ∃ (q dx k dk ro nu pl d l : Addr) (me rnd r : Int) (st : Str) (bg : V) (rs ms ns : List Int) (ps : List (Key × V)) (S : List (Int × Int)), vs = [.ref q] ∧ CalAt H C q dx me st rnd ro nu (.ref k) bg pl rs ms ps ∧ KeyAt H CK k dk r d l S ns ∧
  rs.Nodup ∧ (∀ m ∈ rs, 0 ≤ m ∧ m < ms.length) ∧ rs.length ≤ 60 ∧ ns.length ≤ 500 ∧ HandK K C CK H Q [q, k] q dx k dk ro nu pl d me rnd r st bg rs ms ps S (lineUp me rs ms S ns)
theorem told_at {H : Hp} {t : Addr} {r : Int} {S : List (Int × Int)} {ns : List Int} (h : Dp K H (.ref t) (toldD r S ns)) : ∃ u v, SqT K H t [.int r, .ref u, .ref v] ∧ Dp K H (.ref u) (.tuple (S.map pairD)) ∧ Dp K H (.ref v) (.tuple (ns.map PyData.int)) := by
  cases h with
  | tup hs ha =>
    cases ha with
    | cons h1 h2 =>
      cases h1
      cases h2 with
      | cons h3 h4 =>
        cases h4 with
        | cons h5 h6 =>
          cases h6
          cases h3 with
          | tup a1 a2 =>
            cases h5 with
            | tup b1 b2 => exact ⟨_, _, hs, .tup a1 a2, .tup b1 b2⟩
theorem CalAt.chg1 {H H' : Hp} {q dx : Addr} {me : Int} {st : Str} {rnd : Int} {ro nu : Addr} {key bg : V} {pl : Addr} {rs ms : List Int} {ps : List (Key × V)} (A : CalAt H C q dx me st rnd ro nu key bg pl rs ms ps) {p D d : Addr} {fs : List (Str × V)} (hp : H p = some (.ins D d fs)) (n : q ≠ p) (c : Chg p H H') : CalAt H' C q dx me st rnd ro nu key bg pl rs ms ps :=
  ⟨c _ _ n A.hp, c _ _ (ne_of A.hr hp (by intro z; cases z)) A.hr, c _ _ (ne_of A.hn hp (by intro z; cases z)) A.hn, c _ _ (ne_of A.hpl hp (by intro z; cases z)) A.hpl⟩
theorem CalAt.lst {H : Hp} {q dx : Addr} {me : Int} {st : Str} {rnd : Int} {ro nu : Addr} {key bg : V} {pl : Addr} {rs ms : List Int} {ps : List (Key × V)} (A : CalAt H C q dx me st rnd ro nu key bg pl rs ms ps) {p : Addr} {xs : List V} {o : HO} (hp : H p = some (.lst xs)) (n1 : ro ≠ p) (n2 : nu ≠ p) : CalAt (upd H p o) C q dx me st rnd ro nu key bg pl rs ms ps :=
  ⟨(upd_ne (ne_of A.hp hp (by intro z; cases z))).trans A.hp, (upd_ne n1).trans A.hr, (upd_ne n2).trans A.hn, (upd_ne (ne_of A.hpl hp (by intro z; cases z))).trans A.hpl⟩
theorem noL_pairs (S : List (Int × Int)) : noL (.tuple (S.map pairD)) = true := noLs_pairs S
theorem noLs_intsD : ∀ ns : List Int, noLs (ns.map PyData.int) = true
  | [] => rfl
  | n :: ns => by simp [noLs, noL, noLs_intsD ns]
theorem noL_key (r : Int) (S : List (Int × Int)) (ns : List Int) : noL (keyD r S ns) = true := by
  simp [keyD, noL, noLs, noLs_pairs, noLs_intsD]
theorem sc_Caller_hand_on : FnScope ["self", "to", "letter"] ["self"] (defScope s_Caller_hand_on) :=
  ⟨rfl, rfl, rfl, by decide +kernel, rfl, by decide +kernel, by decide +kernel⟩
theorem ok_handon (F : Fun K "_hand_on" "Caller._hand_on" s_Caller_hand_on f fd) (S : CalT K C) (KT : KeyT K CK) (ML : Me P w K mg base CK "line_up" 2 ["self", "behind", "roster", "numbers"] (spLineUp CK)) (MK : Me P w K mg base CK "take_first" 1 ["self"] (spTake CK)) (MT : Me P w K mg base CK "told" 1 ["self"] (spTold K CK)) :
    FnOk P w K mg base CX0 3 f fd ["self"] (spHandOn K C CK) := by
  obtain ⟨fL, fdL, GL, bL, mL⟩ := ML
  obtain ⟨fK, fdK, GK, bK, mK⟩ := MK
  obtain ⟨fT, fdT, GT, bT, mT⟩ := MT
  refine F.ok sc_Caller_hand_on (fun vs H Q E h => ?_) (fun cdv A outer s H vs Q E hr h => ?_)
  · obtain ⟨q, _, _, _, _, _, _, _, _, _, _, _, _, _, _, _, _, _, _, rfl, _⟩ := h
    rfl
  obtain ⟨q, dx, k, dk, ro, nu, pl, d, l, me, rnd, r, st, bg, rs, ms, ns, ps, SS, rfl, A0, K0, nd, bnd, l60, l500, HK⟩ := h
  have hr1 : Room 1 _ := hr.mono (by decide)
  refine ⟨_, (pss_cons (ps_expr (pe_meth (pe_fld (pv 0) (by rfl)) KT.cl mL GL hr bL .nil pass0 (pa_cons (pe_fld (pv 0) (by rfl)) (pa_cons (pe_fld (pv 0) (by rfl)) (pa_cons (pe_fld (pv 0) (by rfl)) pa_nil)))))
    (pss_cons (ps_set (i := 1) sc_Caller_hand_on.nd rfl (Or.inl rfl) (pe_meth0 (pe_fld (pv 0) (by rfl)) KT.cl mK GK hr1 bK .nil pass0))
    (pss_cons (ps_if (pt_cmpR op_isN (pv 1) pe_non (nomark _))
    (pss_one (ps_ret (pe_lst pa_nil)))
    pss_nil)
    (pss_cons (ps_if (pt_cmpR op_eq (pv 1) (pe_fld (pv 0) (by rfl)) (nomark _))
    (pss_cons (ps_fld (pv 0) pe_str rfl)
    (pss_one (ps_ret (pe_lst pa_nil))))
    pss_nil)
    (pss_cons (ps_set (i := 2) sc_Caller_hand_on.nd rfl (Or.inl rfl) (pe_op op_catA (pe_tup (pa_cons pe_str pa_nil)) (pe_meth0 (pe_fld (pv 0) (by rfl)) KT.cl mT GT hr1 bT .nil pass0)))
    (pss_cons (ps_fld (pv 0) pe_non rfl)
    (pss_one (ps_ret (pe_lst (pa_cons (pe_tup (pa_cons (pv 1) (pa_cons (pv 2) pa_nil))) pa_nil)))))))))), ?_⟩
  have kno := fun (d l : Addr) (x : Str) (h1 : x ≠ "round") (h2 : x ≠ "_served") (h3 : x ≠ "_line") => keF_no r d l h1 h2 h3
  refine ⟨_, rfl, q, C, dx, _, _, rfl, A0.hp, S.cl, S.key, caF_key _ _ _ _ _ _ _ _ _, k, dk, _, rfl, K0.hp, kno _ _ _ (by decide +kernel) (by decide +kernel) (by decide +kernel), _, rfl, q, C, dx, _, _, rfl, A0.hp, S.cl, S.me, caF_me _ _ _ _ _ _ _ _ _, _, rfl, q, C, dx, _, _, rfl, A0.hp, S.cl, S.roster, caF_ros _ _ _ _ _ _ _ _ _, _, rfl, q, C, dx, _, _, rfl, A0.hp, S.cl, S.numbers, caF_nms _ _ _ _ _ _ _ _ _, k, dk, ro, nu, r, me, d, l, SS, ns, rs, ms, rfl, K0, A0.hr, A0.hn, nd, bnd, l60, l500, fun l' H1 hl' c1 K1 => ?_⟩
  have qk := ca_ne_ke A0.hp K0.hp
  have A1 := A0.chg1 K0.hp qk c1
  have cs1 : ChgS [q, k] H H1 := Chg.s c1 (by simp)
  obtain ⟨ln, eln⟩ : ∃ ln, ln = lineUp me rs ms SS ns := ⟨_, rfl⟩
  rw [← eln] at HK K1
  refine ⟨_, rfl, q, C, dx, _, _, rfl, A1.hp, S.cl, S.key, caF_key _ _ _ _ _ _ _ _ _, k, dk, _, rfl, K1.hp, kno _ _ _ (by decide +kernel) (by decide +kernel) (by decide +kernel), k, dk, r, d, l', SS, ln, rfl, K1, ?_⟩
  rcases ln with _ | ⟨t, rest⟩
  · refine .inl ⟨rfl, ?_⟩
    refine ⟨_, rfl, rfl, _, rfl, iteT' rfl ?_⟩
    refine ⟨Nat.zero_le _, fun z hz => ?_⟩
    have sz := same_upd (o := .lst []) hz
    exact HK.none rfl z l' _ (cs1.new hz) hl' (A1.same sz) (K1.same sz) upd_same
  · refine .inr ⟨t, rest, rfl, ?_⟩
    have nr : ro ≠ l' := ne_of_none A0.hr hl'
    have nn : nu ≠ l' := ne_of_none A0.hn hl'
    have A2 := A1.lst (o := .lst (rest.map V.int)) K1.hl nr nn
    have K2 : KeyAt (upd H1 l' (.lst (rest.map V.int))) CK k dk r d l' SS rest := ⟨(upd_ne (ne_of K1.hp K1.hl (by intro z; cases z))).trans K1.hp, (upd_ne (ne_of K1.hd K1.hl (by intro z; cases z))).trans K1.hd, upd_same, K1.nd, K1.few, by have := K1.few2; rw [List.length_cons] at this; omega⟩
    have cs2 : ChgS [q, k] H (upd H1 l' (.lst (rest.map V.int))) := cs1.mut hl'
    obtain ⟨H2, e2⟩ : ∃ H2, H2 = upd H1 l' (.lst (rest.map V.int)) := ⟨_, rfl⟩
    rw [← e2] at A2 K2 cs2
    rw [← e2]
    refine ⟨_, rfl, rfl, _, rfl, iteF' rfl ?_⟩
    refine ⟨_, rfl, _, rfl, q, C, dx, _, _, rfl, A2.hp, S.cl, S.me, caF_me _ _ _ _ _ _ _ _ _, rfl, _, rfl, ?_⟩
    rw [dec_ii]
    by_cases et : t = me
    · refine iteT' (decide_eq_true et) ?_
      subst et
      refine ⟨_, rfl, q, C, dx, _, rfl, A2.hp, S.cl, S.state, (by show 9 < 1000; decide), ?_⟩
      rw [caF_put_stt]
      have cq : Chg q H2 (upd H2 q (.ins C dx (caF t "in" false rnd ro nu (.ref k) bg pl))) := Chg.self
      have A3 : CalAt (upd H2 q (.ins C dx (caF t "in" false rnd ro nu (.ref k) bg pl))) C q dx t "in" rnd ro nu (.ref k) bg pl rs ms ps := ⟨upd_same, cq _ _ (ne_of A2.hr A2.hp (by intro z; cases z)) A2.hr, cq _ _ (ne_of A2.hn A2.hp (by intro z; cases z)) A2.hn, cq _ _ (ne_of A2.hpl A2.hp (by intro z; cases z)) A2.hpl⟩
      have K3 := K2.chg A2.hp qk.symm cq
      refine ⟨Nat.zero_le _, fun z hz => ?_⟩
      have sz := same_upd (o := .lst []) hz
      exact HK.self rest rfl z l' _ ((cs2.put (by simp)).new hz) hl' (A3.same sz) (K3.same sz) upd_same
    · refine iteF' (decide_eq_false et) ?_
      refine ⟨by show 1 ≤ sizeLine; decide, fun t1 ht1 => ?_⟩
      have s3 := same_upd (o := .tup [.str "key"]) ht1
      have A3 := A2.same s3
      have K3 := K2.same s3
      refine ⟨_, rfl, q, C, dx, _, _, rfl, A3.hp, S.cl, S.key, caF_key _ _ _ _ _ _ _ _ _, k, dk, _, rfl, K3.hp, kno _ _ _ (by decide +kernel) (by decide +kernel) (by decide +kernel), k, dk, r, d, l', SS, rest, rfl, K3, fun t2 S' H4 s4 pS uS dT => ?_⟩
      obtain ⟨u, v, q2, du, dv⟩ := told_at dT
      refine cat_anyk (sqt_same s4 (SqT.of upd_same)) q2 (by show 1 + 3 ≤ 10000; decide) fun t3 H5 s5 q3 => ?_
      have A5 := (A3.same s4).same s5
      have s25 := (s3.trans s4).trans s5
      have cs5 : ChgS [q, k] H H5 := cs2.trans (Same.s s25)
      refine ⟨_, rfl, q, C, dx, _, rfl, A5.hp, S.cl, S.key, (by show 9 < 1000; decide), ?_⟩
      rw [caF_put_key]
      have cq : Chg q H5 (upd H5 q (.ins C dx (caF me st false rnd ro nu .non bg pl))) := Chg.self
      have A6 : CalAt (upd H5 q (.ins C dx (caF me st false rnd ro nu .non bg pl))) C q dx me st rnd ro nu .non bg pl rs ms ps := ⟨upd_same, cq _ _ (ne_of A5.hr A5.hp (by intro z; cases z)) A5.hr, cq _ _ (ne_of A5.hn A5.hp (by intro z; cases z)) A5.hn, cq _ _ (ne_of A5.hpl A5.hp (by intro z; cases z)) A5.hpl⟩
      have d5 : Dp K H5 (.ref t3) (keyD r S' rest) := .tup q3 (.cons (.str _) (.cons (.int _) (.cons (dp_same s5 _ _ du) (.cons (dp_same s5 _ _ dv) .nil))))
      have d6 := dp_chgI A5.hp cq _ _ d5
      refine ⟨_, rfl, _, rfl, by show 2 ≤ sizeLine; decide, fun t6 ht6 => ?_⟩
      have s7 := same_upd (o := .tup [.int t, .ref t3]) ht6
      refine ⟨by show 1 ≤ sizeLine; decide, fun z hz => ?_⟩
      have s8 := same_upd (o := .lst [.ref t6]) hz
      exact HK.give t rest rfl et z [.ref t6] S' _ (((cs5.put (by simp)).new ht6).new hz) ((A6.same s7).same s8) pS uS upd_same (.cons (.tup (SqT.of (s8 _ _ upd_same)) (.cons (.int t) (.cons (dp_same (s7.trans s8) _ _ d6) .nil))) .nil)
end

end G0
namespace G0
open PySem PySem.Spec PyProof.Rows L2 NdefX ClX
/-! ### xs[j] += e -/
def rGetL0 (K : PySem.W.Frag) : V → V → Hp → VK → Prop := fun o i H Q => ∃ (p : Addr) (xs : List V) (j : Nat) (z : V), o = .ref p ∧ i = .int (j : Nat) ∧ SqL K H p xs ∧ xs[j]? = some z ∧ j < 1000000 ∧ Q z H
theorem pget_list {X : Cx} : PGet X (rGetL0 X.K) := by
  rintro pins s σ H o i ov iv Q I ro ri ⟨p, xs, j, z, rfl, rfl, hq, hz, lj, q⟩
  cases ro
  obtain ⟨t, rfl⟩ := ri
  obtain ⟨its, r, pl, _⟩ := I.list hq
  obtain ⟨u, eu, ru⟩ := r.get hz
  exact wpAny_getItem_list pl.isList (by omega) (by omega) (by simpa using eu) ⟨z, H, I, ru, q⟩
section
variable {P : Program} {w : World} {K : PySem.W.Frag} {mg : Str → Option Value} {base : Heap} {C CK f : Addr} {fd : FuncData}
theorem HandK.from {H H1 : Hp} {Q : VK} {A B A' : List Addr} {q dx k dk ro nu pl d : Addr} {me rnd r : Int} {st : Str} {bg : V} {rs ms : List Int} {ps : List (Key × V)} {S : List (Int × Int)} {ln : List Int} (h : HandK K C CK H Q A q dx k dk ro nu pl d me rnd r st bg rs ms ps S ln)
    (c : ChgS A' H H1) (s1 : ∀ a ∈ A', a ∈ A) (s2 : ∀ a ∈ B, a ∈ A) (al : ∀ a ∈ A', H1 a ≠ .none) : HandK K C CK H1 Q B q dx k dk ro nu pl d me rnd r st bg rs ms ps S ln := by
  have go : ∀ {H' : Hp}, ChgS B H1 H' → ChgS A H H' := fun c2 => (c.mono s1).trans (c2.mono s2)
  have bk : ∀ {x : Addr}, H1 x = .none → H x = .none := fun {x} e => c.back e fun m => al x m e
  exact ⟨fun e z l' H' c2 hl => h.none e z l' H' (go c2) (bk hl), fun rest e z l' H' c2 hl => h.self rest e z l' H' (go c2) (bk hl), fun t rest e n z zs S' H' c2 => h.give t rest e n z zs S' H' (go c2)⟩
theorem dec_refn {a : Addr} : decide (V.ref a = V.non) = false := decide_eq_false fun h => nomatch h
theorem dec_str {a b : Str} : decide (V.str a = V.str b) = decide (a = b) := decide_eq_decide.mpr ⟨fun h => by cases h; rfl, fun h => by rw [h]⟩
/-! ### an ask is heard -/
def spHearAsk (K : PySem.W.Frag) (C CK : Addr) : Sp := fun vs H Q _ => ∃ (q dx ro nu pl : Addr) (me rnd s v : Int) (st : Str) (key bg : V) (rs ms : List Int) (ps : List (Key × V)), vs = [.ref q, .int s, .int v] ∧ CalAt H C q dx me st rnd ro nu key bg pl rs ms ps ∧ 0 ≤ s ∧ s < ms.length ∧ ro ≠ nu ∧
  (((key = .non ∨ (st = "in" ∧ ∃ a, key = .ref a)) ∧ ∀ z H', ChgS [nu] H H' → CalAt H' C q dx me st rnd ro nu key bg pl rs (learn ms s v) ps → H' z = some (.lst []) → Q (.ref z) H') ∨
    ∃ (k dk d l : Addr) (r : Int) (S : List (Int × Int)) (ns : List Int), key = .ref k ∧ st ≠ "in" ∧ KeyAt H CK k dk r d l S ns ∧ l ≠ nu ∧ rs.Nodup ∧ (∀ m ∈ rs, 0 ≤ m ∧ m < ms.length) ∧ rs.length ≤ 60 ∧ ns.length ≤ 500 ∧
      HandK K C CK H Q [q, k, nu] q dx k dk ro nu pl d me rnd r st bg rs (learn ms s v) ps S (lineUp me rs (learn ms s v) S ns))
theorem sc_Caller_hear_ask : FnScope ["self", "sender", "number"] ["self", "sender", "number"] (defScope s_Caller_hear_ask) :=
  ⟨rfl, rfl, rfl, by decide +kernel, rfl, by decide +kernel, by decide +kernel⟩
theorem ok_hearask (F : Fun K "_hear_ask" "Caller._hear_ask" s_Caller_hear_ask f fd) (S : CalT K C) (ML : Me P w K mg base C "_learn" 1 ["self", "seat", "number"] (spLearn C)) (MH : Me P w K mg base C "_hand_on" 3 ["self"] (spHandOn K C CK)) :
    FnOk P w K mg base CX0 4 f fd ["self", "sender", "number"] (spHearAsk K C CK) := by
  obtain ⟨fL, fdL, GL, bL, mL⟩ := ML
  obtain ⟨fH, fdH, GH, bH, mH⟩ := MH
  refine F.ok sc_Caller_hear_ask (fun vs H Q E h => ?_) (fun cdv A outer s H vs Q E hr h => ?_)
  · obtain ⟨q, _, _, _, _, _, _, _, _, _, _, _, _, _, _, rfl, _⟩ := h
    rfl
  obtain ⟨q, dx, ro, nu, pl, me, rnd, s', v, st, key, bg, rs, ms, ps, rfl, A0, h0, h1, rn, two⟩ := h
  have hr1 : Room 1 _ := hr.mono (by decide)
  refine ⟨_, (pss_cons (ps_expr (pe_meth (pv 0) S.cl mL GL hr1 bL .nil pass0 (pa_cons (pv 1) (pa_cons (pv 2) pa_nil))))
    (pss_cons (ps_if (PW.pt (pw_or (pt_cmpR op_isN (pe_fld (pv 0) (by rfl)) pe_non (nomark _)) (pw_or1 (pt_cmpR op_eq (pe_fld (pv 0) (by rfl)) pe_str (nomark _)))))
    (pss_one (ps_ret (pe_lst pa_nil)))
    pss_nil)
    (pss_one (ps_ret (pe_meth0 (pv 0) S.cl mH GH hr bH .nil pass0))))), ?_⟩
  refine ⟨_, rfl, q, dx, _, rfl, A0.hp, (A0.no "_learn").2, _, rfl, _, rfl, q, dx, ro, nu, pl, me, rnd, s', v, st, key, bg, rs, ms, ps, rfl, A0, h0, h1, ?_⟩
  have c1 : ChgS [nu] H (upd H nu (.lst ((learn ms s' v).map V.int))) := ChgS.refl.put (by simp)
  have A1 : CalAt (upd H nu (.lst ((learn ms s' v).map V.int))) C q dx me st rnd ro nu key bg pl rs (learn ms s' v) ps := ⟨(upd_ne (ne_of A0.hp A0.hn (by intro z; cases z))).trans A0.hp, (upd_ne rn).trans A0.hr, upd_same, (upd_ne (ne_of A0.hpl A0.hn (by intro z; cases z))).trans A0.hpl⟩
  have kk : ∀ {a : Addr} {o : HO}, H a = some o → a ≠ nu → upd H nu (.lst ((learn ms s' v).map V.int)) a = some o := fun e n => (upd_ne n).trans e
  have al : upd H nu (.lst ((learn ms s' v).map V.int)) nu ≠ none := by rw [upd_same]; exact fun z => nomatch z
  obtain ⟨H1, e1⟩ : ∃ H1, H1 = upd H nu (.lst ((learn ms s' v).map V.int)) := ⟨_, rfl⟩
  rw [← e1] at c1 A1 al
  rw [← e1]
  rcases two with ⟨hk, k⟩ | ⟨ka, dk, d, l, r, SS, ns, rfl, nin, K0, lnu, nd, bnd, l60, l500, HK⟩
  · refine ⟨_, rfl, q, C, dx, _, _, rfl, A1.hp, S.cl, S.key, caF_key _ _ _ _ _ _ _ _ _, rfl, _, rfl, ?_⟩
    have fin : ∀ z, H1 z = none → Q (.ref z) (upd H1 z (.lst [])) := fun z hz => k z _ (c1.new hz) (A1.same (same_upd hz)) upd_same
    rcases hk with rfl | ⟨rfl, a, rfl⟩
    · exact iteT' rfl ⟨Nat.zero_le _, fin⟩
    · refine iteF' dec_refn ?_
      refine ⟨_, rfl, q, C, dx, _, _, rfl, A1.hp, S.cl, S.state, caF_stt _ _ _ _ _ _ _ _ _, rfl, _, rfl, iteT' (by decide +kernel) ?_⟩
      exact ⟨Nat.zero_le _, fin⟩
  · refine ⟨_, rfl, q, C, dx, _, _, rfl, A1.hp, S.cl, S.key, caF_key _ _ _ _ _ _ _ _ _, rfl, _, rfl, iteF' dec_refn ?_⟩
    refine ⟨_, rfl, q, C, dx, _, _, rfl, A1.hp, S.cl, S.state, caF_stt _ _ _ _ _ _ _ _ _, rfl, _, rfl, iteF' (by rw [dec_str]; exact decide_eq_false nin) ?_⟩
    have K1 : KeyAt H1 CK ka dk r d l SS ns := by
      rw [e1]
      exact { K0 with hp := kk K0.hp (ne_of K0.hp A0.hn (by intro z; cases z)), hd := kk K0.hd (ne_of K0.hd A0.hn (by intro z; cases z)), hl := kk K0.hl lnu }
    exact ⟨_, rfl, q, dx, _, rfl, A1.hp, (A1.no "_hand_on").2, q, dx, ka, dk, ro, nu, pl, d, l, me, rnd, r, st, bg, rs, learn ms s' v, ns, ps, SS, rfl, A1, K1, nd, by rw [learn_len]; exact bnd, l60, l500, HK.from c1 (by simp) (by simp) (fun a ha => by rw [List.mem_singleton.mp ha]; exact al)⟩
/-! ### it asks -/
def inc (ms : List Int) (m : Int) : List Int := ms.set m.toNat (ms.getD m.toNat 0 + 1)
def askD (n : Int) : PyData := .tuple [.str "ask", .int n]
def spAskC (K : PySem.W.Frag) (C : Addr) : Sp := fun vs H Q _ => ∃ (q dx ro nu pl : Addr) (me rnd : Int) (st : Str) (key bg : V) (rs ms : List Int) (ps : List (Key × V)), vs = [.ref q] ∧ CalAt H C q dx me st rnd ro nu key bg pl rs ms ps ∧ 0 ≤ me ∧ me < ms.length ∧ ms.length ≤ 60 ∧ ro ≠ nu ∧ rs.length ≤ 60 ∧
  (((∃ a, key = .ref a) ∧ ∀ z H', ChgS [q, nu] H H' → CalAt H' C q dx me "in" rnd ro nu key bg pl rs (inc ms me) ps → H' z = some (.lst []) → Q (.ref z) H') ∨
    (key = .non ∧ ∀ z zs H', ChgS [q, nu] H H' → CalAt H' C q dx me "asking" rnd ro nu key bg pl rs (inc ms me) ps → H' z = some (.lst zs) → DpAll K H' zs ((othR rs me).map (toD (askD (ms.getD me.toNat 0 + 1)))) → Q (.ref z) H'))
theorem sc_Caller_ask : FnScope ["self"] ["self"] (defScope s_Caller_ask) :=
  ⟨rfl, rfl, rfl, by decide +kernel, rfl, by decide +kernel, by decide +kernel⟩
theorem ok_askC (F : Fun K "ask" "Caller.ask" s_Caller_ask f fd) (S : CalT K C) (MO : Me P w K mg base C "_to_others" 1 ["self", "letter"] (spToO K C)) : FnOk P w K mg base CX0 2 f fd ["self"] (spAskC K C) := by
  obtain ⟨fO, fdO, GO, bO, mO⟩ := MO
  refine F.ok sc_Caller_ask (fun vs H Q E h => ?_) (fun cdv A outer s H vs Q E hr h => ?_)
  · obtain ⟨q, _, _, _, _, _, _, _, _, _, _, _, _, rfl, _⟩ := h
    rfl
  obtain ⟨q, dx, ro, nu, pl, me, rnd, st, key, bg, rs, ms, ps, rfl, A0, h0, h1, m60, rn, l60, two⟩ := h
  refine ⟨_, (pss_cons (ps_augS (pe_fld (pv 0) (by rfl)) (pe_fld (pv 0) (by rfl)) pget_list pe_int ip_add set_list)
    (pss_cons (ps_if (pt_cmpR op_notN (pe_fld (pv 0) (by rfl)) pe_non (nomark _))
    (pss_cons (ps_fld (pv 0) pe_str rfl)
    (pss_one (ps_ret (pe_lst pa_nil))))
    pss_nil)
    (pss_cons (ps_fld (pv 0) pe_str rfl)
    (pss_one (ps_ret (pe_meth (pv 0) S.cl mO GO hr bO .nil pass0 (pa_cons (pe_tup (pa_cons pe_str (pa_cons (pe_ix ix_list (pe_fld (pv 0) (by rfl)) (pe_fld (pv 0) (by rfl)) (fun _ _ => rfl)) pa_nil))) pa_nil))))))), ?_⟩
  obtain ⟨j, ej⟩ : ∃ j : Nat, me = (j : Int) := ⟨me.toNat, by omega⟩
  have jl : j < ms.length := by omega
  have eg : ms.getD me.toNat 0 = ms[j] := by rw [ej, show ((j : Int)).toNat = j from rfl, List.getD_eq_getElem?_getD, List.getElem?_eq_getElem jl]; rfl
  refine ⟨_, rfl, q, C, dx, _, _, rfl, A0.hp, S.cl, S.numbers, caF_nms _ _ _ _ _ _ _ _ _, _, rfl, q, C, dx, _, _, rfl, A0.hp, S.cl, S.me, caF_me _ _ _ _ _ _ _ _ _, nu, _, j, _, rfl, by rw [ej], SqL.of A0.hn, (by rw [List.getElem?_map, List.getElem?_eq_getElem jl]; rfl), by omega, _, _, rfl, rfl, nu, _, _, j, rfl, rfl, A0.hn, (by rw [List.length_map, ej]; exact ix_n jl), ?_⟩
  have ei : (ms.map V.int).set j (.int (ms[j] + 1)) = (inc ms me).map V.int := by
    unfold inc
    rw [eg, ej, List.map_set]
    rfl
  rw [ei]
  have c1 : ChgS [q, nu] H (upd H nu (.lst ((inc ms me).map V.int))) := ChgS.refl.put (by simp)
  have A1 : CalAt (upd H nu (.lst ((inc ms me).map V.int))) C q dx me st rnd ro nu key bg pl rs (inc ms me) ps := ⟨(upd_ne (ne_of A0.hp A0.hn (by intro z; cases z))).trans A0.hp, (upd_ne rn).trans A0.hr, upd_same, (upd_ne (ne_of A0.hpl A0.hn (by intro z; cases z))).trans A0.hpl⟩
  obtain ⟨H1, e1⟩ : ∃ H1, H1 = upd H nu (.lst ((inc ms me).map V.int)) := ⟨_, rfl⟩
  rw [← e1] at c1 A1
  rw [← e1]
  refine ⟨_, rfl, q, C, dx, _, _, rfl, A1.hp, S.cl, S.key, caF_key _ _ _ _ _ _ _ _ _, rfl, _, rfl, ?_⟩
  rcases two with ⟨⟨a, rfl⟩, k⟩ | ⟨rfl, k⟩
  · refine iteT' (by rw [dec_refn]; rfl) ?_
    refine ⟨_, rfl, q, C, dx, _, rfl, A1.hp, S.cl, S.state, (by show 9 < 1000; decide), ?_⟩
    rw [caF_put_stt]
    have cq : Chg q H1 (upd H1 q (.ins C dx (caF me "in" false rnd ro nu (.ref a) bg pl))) := Chg.self
    have A2 : CalAt (upd H1 q (.ins C dx (caF me "in" false rnd ro nu (.ref a) bg pl))) C q dx me "in" rnd ro nu (.ref a) bg pl rs (inc ms me) ps := ⟨upd_same, cq _ _ (ne_of A1.hr A1.hp (by intro z; cases z)) A1.hr, cq _ _ (ne_of A1.hn A1.hp (by intro z; cases z)) A1.hn, cq _ _ (ne_of A1.hpl A1.hp (by intro z; cases z)) A1.hpl⟩
    have c2 : ChgS [q, nu] H (upd H1 q (.ins C dx (caF me "in" false rnd ro nu (.ref a) bg pl))) := c1.put (by simp)
    obtain ⟨H2, e2⟩ : ∃ H2, H2 = upd H1 q (.ins C dx (caF me "in" false rnd ro nu (.ref a) bg pl)) := ⟨_, rfl⟩
    rw [← e2] at c2 A2
    rw [← e2]
    exact ⟨Nat.zero_le _, fun z hz => k z _ (c2.new hz) (A2.same (same_upd hz)) upd_same⟩
  · refine iteF' rfl ?_
    refine ⟨_, rfl, q, C, dx, _, rfl, A1.hp, S.cl, S.state, (by show 9 < 1000; decide), ?_⟩
    rw [caF_put_stt]
    have cq : Chg q H1 (upd H1 q (.ins C dx (caF me "asking" false rnd ro nu (.non) bg pl))) := Chg.self
    have A2 : CalAt (upd H1 q (.ins C dx (caF me "asking" false rnd ro nu (.non) bg pl))) C q dx me "asking" rnd ro nu (.non) bg pl rs (inc ms me) ps := ⟨upd_same, cq _ _ (ne_of A1.hr A1.hp (by intro z; cases z)) A1.hr, cq _ _ (ne_of A1.hn A1.hp (by intro z; cases z)) A1.hn, cq _ _ (ne_of A1.hpl A1.hp (by intro z; cases z)) A1.hpl⟩
    have c2 : ChgS [q, nu] H (upd H1 q (.ins C dx (caF me "asking" false rnd ro nu (.non) bg pl))) := c1.put (by simp)
    obtain ⟨H2, e2⟩ : ∃ H2, H2 = upd H1 q (.ins C dx (caF me "asking" false rnd ro nu (.non) bg pl)) := ⟨_, rfl⟩
    rw [← e2] at c2 A2
    rw [← e2]
    refine ⟨_, rfl, q, dx, _, rfl, A2.hp, (A2.no "_to_others").2, _, rfl, q, C, dx, _, _, rfl, A2.hp, S.cl, S.numbers, caF_nms _ _ _ _ _ _ _ _ _, _, rfl, q, C, dx, _, _, rfl, A2.hp, S.cl, S.me, caF_me _ _ _ _ _ _ _ _ _, nu, _, _, .int (ms.getD me.toNat 0 + 1), rfl, rfl, SqL.of A2.hn, ?_, ?_⟩
    · rw [at_ms h0 (by unfold inc; rw [List.length_set]; exact h1)]
      unfold inc
      rw [eg, ej, show ((j : Int)).toNat = j from rfl, List.getD_eq_getElem?_getD, List.getElem?_set_self jl]
      rfl
    refine ⟨by show 2 ≤ sizeLine; decide, fun t ht => ?_⟩
    have s3 := same_upd (o := .tup [.str "ask", .int (ms.getD me.toNat 0 + 1)]) ht
    exact ⟨q, dx, t, ro, nu, pl, me, rnd, "asking", .non, bg, rs, inc ms me, ps, askD (ms.getD me.toNat 0 + 1), rfl, A2.same s3, .tup (SqT.of upd_same) (.cons (.str _) (.cons (.int _) .nil)), by simp [askD, noL, noLs], l60, fun l zs H' s' kl dz => k l zs H' (c2.trans (Same.s (s3.trans s'))) ((A2.same s3).same s') kl dz⟩
end

end G0
namespace G0
open PySem PySem.Spec PyProof.Rows L2 NdefX ClX
section
variable {P : Program} {w : World} {K : PySem.W.Frag} {mg : Str → Option Value} {base : Heap} {C CK f : Addr} {fd : FuncData}
/-! ### a key out of a letter -/
/-- {k: v for .. in xs}, xs a tuple -/
theorem dc_tup {K : PySem.W.Frag} {a : Addr} {xs : List V} {g : TG} {tt : TT} {tk tv : TE} {vs : List Nat} {σ : L2.St} {H1 : Hp} {D : Addr} {Qd : Hp → Prop} (Pv : Nat → Hp → Prop) (start : Pv 0 (upd H1 D (.dK []))) (stays : ∀ i G, Pv i G → SqT K G a xs)
    (step : ∀ i x G, xs[i]? = some x → Pv i G → g x (wipe σ vs) G fun σ2 H2 => wipe σ2 vs = wipe σ vs ∧ tt σ2 H2 fun b H3 =>
      if b = true then tk σ2 H3 fun y H4 => tv σ2 H4 fun z H5 => ∃ kvs k, y = kV k ∧ H5 D = some (.dK kvs) ∧ kvs.length < sizeLine ∧ Pv (i + 1) (upd H5 D (.dK (putK kvs k z))) else Pv (i + 1) H3) (fin : ∀ G, Pv xs.length G → Qd G) :
    ∃ W : Nat → Nat → Hp → Prop, (∃ m, W 0 m (upd H1 D (.dK []))) ∧ ∀ i m G, W i m G →
      ((Itt K a).stop i G ∧ Qd G) ∨ ((Itt K a).go i G ∧ ∃ Nx : Hp → Prop, (∀ G', Nx G' → ∃ m', m' < m ∧ W (i + 1) m' G') ∧ ∀ x G', (Itt K a).yld i G x G' → g x (wipe σ vs) G' fun σ2 H2 => wipe σ2 vs = wipe σ vs ∧ tt σ2 H2 fun b H3 =>
        if b = true then tk σ2 H3 fun y H4 => tv σ2 H4 fun z H5 => ∃ kvs k, y = kV k ∧ H5 D = some (.dK kvs) ∧ kvs.length < sizeLine ∧ Nx (upd H5 D (.dK (putK kvs k z))) else Nx H3) := by
  refine ⟨fun i m G => m + i = xs.length ∧ Pv i G, ⟨xs.length, rfl, start⟩, ?_⟩
  rintro i m G ⟨e, p⟩
  have sq := stays i G p
  rcases Nat.lt_or_ge i xs.length with lt | ge
  · refine .inr ⟨⟨xs, xs[i], sq, List.getElem?_eq_getElem lt⟩, Pv (i + 1), fun G' p' => ⟨m - 1, by omega, by omega, p'⟩, fun x G' told => ?_⟩
    obtain ⟨rfl, y⟩ := told
    exact step i x G' (y xs sq) p
  · have e' : i = xs.length := by omega
    subst e'
    exact .inl ⟨⟨xs, sq, Nat.le_refl _⟩, fin G p⟩
def spKInitT (K : PySem.W.Frag) (CK : Addr) : Sp := fun vs H Q _ => ∃ (p dx sv ln : Addr) (r : Int) (ys : List V) (S : List (Int × Int)) (ns : List Int), vs = [.ref p, .int r, .ref sv, .ref ln] ∧ H p = some (.ins CK dx []) ∧ SqT K H sv ys ∧ DpAll K H ys (S.map pairD) ∧ SqT K H ln (ns.map V.int) ∧
  (S.map (·.1)).Nodup ∧ S.length ≤ 60 ∧ ns.length ≤ 1000 ∧ ∀ d l H', H d = none → H l = none → d ≠ p → l ≠ p → d ≠ l → Chg p H H' → KeyAt H' CK p dx r d l S ns → Q .non H'
theorem ok_kinitT (F : Fun K "__init__" "Key.__init__" s_Key__init f fd) (hL : mg "list" = none) (T : KeyT K CK) : FnOk P w K mg base CX0 1 f fd ["self", "of_round", "served", "line"] (spKInitT K CK) := by
  refine F.ok sc_Key__init (fun vs H Q E h => ?_) (fun cdv A outer s H vs Q E hr h => ?_)
  · obtain ⟨p, dx, sv, ln, r, ys, S, ns, rfl, _⟩ := h
    rfl
  obtain ⟨p, dx, sv, ln, r, ys, S, ns, rfl, hp, qS, dS, qL, nd, l60, l2, q⟩ := h
  refine ⟨_, (pss_cons (ps_fld (pv 0) (pv 1) rfl)
    (pss_cons (ps_fld (pv 0) (pe_dc (own := [("member", 4), ("number", 5)]) (g := gTup K 2 (gCons (gName 4) (gCons (gName 5) gNil))) (tt := tYes) (by rfl) sc_Key__init.nd (pi_tup (pv 2)) (blkOk_by (N := ["self", "of_round", "served", "line", "member", "number"]) (sc := defScope s_Key__init) (by decide +kernel)) (fun _ _ _ _ _ => pg_tup (by rfl) (pgs_cons (pg_name (i := 4) sc_Key__init.nd rfl (Or.inl rfl)) (pgs_cons (pg_name (i := 5) sc_Key__init.nd rfl (Or.inl rfl)) pgs_nil))) (fun _ _ _ _ _ => pts_nil) (fun _ _ _ _ _ => (pv 4)) (fun _ _ _ _ _ => (pv 5))) rfl)
    (pss_one (ps_fld (pv 0) (pe_callTy call_list_of (by rfl) hL (by decide +kernel) (pa_cons (pv 3) pa_nil)) rfl)))), ?_⟩
  refine ⟨_, rfl, _, rfl, p, CK, dx, _, rfl, hp, T.cl, T.round, (by show 0 < 1000; decide), ?_⟩
  obtain ⟨H1, e1⟩ : ∃ H1, H1 = upd H p (.ins CK dx (putF "round" (.int r) [])) := ⟨_, rfl⟩
  have c1 : Chg p H H1 := by rw [e1]; exact Chg.self
  have hp1 : H1 p = some (.ins CK dx (putF "round" (.int r) [])) := by rw [e1]; exact upd_same
  rw [← e1]
  have qS1 := sqt_chgI hp c1 qS
  have dS1 := dps_chgI hp c1 _ _ dS
  have lS : ys.length = S.length := by rw [dps_len dS, List.length_map]
  refine ⟨_, rfl, sv, rfl, ⟨_, qS1⟩, fun D hD => ?_⟩
  refine dc_tup (K := K) (a := sv) (xs := ys) (fun i G => Same H1 G ∧ G D = some (.dK ((S.take i).map entI))) ⟨same_upd hD, upd_same⟩ (fun i G h => sqt_same h.1 qS1) ?_ ?_
  · rintro i x G hx ⟨sG, kD⟩
    obtain ⟨pr, er, dp⟩ := dps_at' dS1 hx
    have li := (List.getElem?_eq_some_iff.mp er).1
    obtain ⟨t, v1, v2, rfl, qt, d1, d2⟩ := two_dp dp
    cases d1
    cases d2
    refine ⟨t, _, rfl, sqt_same sG qt, rfl, _, _, rfl, _, _, rfl, rfl, rfl, yes_ite ?_⟩
    refine ⟨_, rfl, _, rfl, _, Sum.inl pr.1, rfl, kD, ?_, fun b o e => ?_, ?_⟩
    · rw [List.length_map]
      refine Nat.lt_of_le_of_lt (List.length_take_le _ _) (Nat.lt_of_lt_of_le (show i < 100 by omega) (by decide))
    · rw [upd_ne (ne_of_none e hD)]
      exact sG _ _ e
    · have nin : pr.1 ∉ (S.take i).map (·.1) := fun z => by
        rw [List.map_take] at z
        obtain ⟨j, lj, ej⟩ := List.mem_take_iff_getElem.mp z
        have lj' : j < i := by omega
        have h2 : (S.map (·.1))[i]? = some pr.1 := by rw [List.getElem?_map, er]; rfl
        have h1 : (S.map (·.1))[j]? = some pr.1 := by rw [List.getElem?_eq_getElem (by omega), ej]
        have := (List.getElem?_inj (by rw [List.length_map]; omega) nd).mp (h1.trans h2.symm)
        omega
      rw [putK_new _ (ent_none nin), List.take_succ, er, List.map_append]
      exact upd_same
  rintro G ⟨sG, kD⟩
  rw [lS, List.take_length] at kD
  have hpG := sG _ _ hp1
  have Dp : D ≠ p := (ne_of_none hp1 hD).symm
  refine ⟨_, rfl, p, CK, dx, _, rfl, hpG, T.cl, T.served, (by show 1 < 1000; decide), ?_⟩
  obtain ⟨H2, e2⟩ : ∃ H2, H2 = upd G p (.ins CK dx (putF "_served" (.ref D) (putF "round" (.int r) []))) := ⟨_, rfl⟩
  rw [← e2]
  have c2 : Chg p H H2 := fun b o nb e => by
    rw [e2, upd_ne nb]
    exact sG _ _ (c1 _ _ nb e)
  have hp2 : H2 p = some (.ins CK dx (putF "_served" (.ref D) (putF "round" (.int r) []))) := by rw [e2]; exact upd_same
  have kD2 : H2 D = some (.dK (S.map entI)) := by rw [e2, upd_ne Dp]; exact kD
  refine ⟨_, rfl, ln, _, rfl, .inr (sqt_chgI hp c2 qL), fun l hl => ?_⟩
  have lp : l ≠ p := (ne_of_none hp2 hl).symm
  have lD : D ≠ l := ne_of_none kD2 hl
  refine ⟨_, rfl, p, CK, dx, _, rfl, (upd_ne lp.symm).trans hp2, T.cl, T.line, (by show 2 < 1000; decide), ?_⟩
  rw [keF_made0]
  have back : ∀ {x : Addr}, x ≠ p → H2 x = none → H x = none := fun n h => by
    cases z : H _ with
    | none => rfl
    | some o => rw [c2 _ _ n z] at h; cases h
  have D0 : H D = none := by
    cases z : H D with
    | none => rfl
    | some o => rw [c1 _ _ Dp z] at hD; cases hD
  refine q D l _ D0 (back lp hl) Dp lp lD (fun b o nb e => ?_) ⟨upd_same, ?_, ?_, nd, l60, l2⟩
  · rw [upd_ne nb, upd_ne (ne_of_none (c2 _ _ nb e) hl)]
    exact c2 _ _ nb e
  · rw [upd_ne Dp, upd_ne lD]; exact kD2
  · rw [upd_ne lp]; exact upd_same
/-! ### a key is heard -/
def spHearKey (K : PySem.W.Frag) (C CK : Addr) : Sp := fun vs H Q _ => ∃ (q dx lt ro nu pl u v : Addr) (me rnd r : Int) (st : Str) (key bg : V) (rs ms ns : List Int) (ps : List (Key × V)) (S : List (Int × Int)) (ys : List V), vs = [.ref q, .ref lt] ∧ CalAt H C q dx me st rnd ro nu key bg pl rs ms ps ∧
  SqT K H lt [.str "key", .int r, .ref u, .ref v] ∧ SqT K H u ys ∧ DpAll K H ys (S.map pairD) ∧ SqT K H v (ns.map V.int) ∧ rnd ≤ r ∧ (S.map (·.1)).Nodup ∧ S.length ≤ 60 ∧ ns.length ≤ 1000 ∧
  ∀ k dk d l z H', ChgS [q] H H' → H k = none → H d = none → H l = none → CalAt H' C q dx me "in" rnd ro nu (.ref k) bg pl rs ms ps → KeyAt H' CK k dk r d l S ns → H' z = some (.lst []) → Q (.ref z) H'
theorem sc_Caller_hear_key : FnScope ["self", "letter"] ["self", "letter"] (defScope s_Caller_hear_key) :=
  ⟨rfl, rfl, rfl, by decide +kernel, rfl, by decide +kernel, by decide +kernel⟩
theorem ok_hearkey {fK : Addr} {fdK : FuncData} (F : Fun K "_hear_key" "Caller._hear_key" s_Caller_hear_key f fd) (S : CalT K C) (KKm : Mk K CK fK) (GK : FnOk P w K mg base CX0 1 fK fdK ["self", "of_round", "served", "line"] (spKInitT K CK)) (bK : Binds K fdK ["self", "of_round", "served", "line"] []) (gK : mg "Key" = some (.ref CK)) :
    FnOk P w K mg base CX0 3 f fd ["self", "letter"] (spHearKey K C CK) := by
  refine F.ok sc_Caller_hear_key (fun vs H Q E h => ?_) (fun cdv A outer s H vs Q E hr h => ?_)
  · obtain ⟨q, _, _, _, _, _, _, _, _, _, _, _, _, _, _, _, _, _, _, _, rfl, _⟩ := h
    rfl
  obtain ⟨q, dx, lt, ro, nu, pl, u, v, me, rnd, r, st, key, bg, rs, ms, ns, ps, SS, ys, rfl, A0, hl, hu, du, hv, le, nd, l60, l1, k⟩ := h
  refine ⟨_, (pss_cons (ps_if (pt_cmpR op_ge (pe_ix ix_tup (pv 1) pe_int (fun _ _ => rfl)) (pe_fld (pv 0) (by rfl)) (nomark _))
    (pss_cons (ps_fld (pv 0) (pe_make KKm GK hr (by rfl) gK bK .nil pass0 (pa_cons (pe_ix ix_tup (pv 1) pe_int (fun _ _ => rfl)) (pa_cons (pe_ix ix_tup (pv 1) pe_int (fun _ _ => rfl)) (pa_cons (pe_ix ix_tup (pv 1) pe_int (fun _ _ => rfl)) pa_nil)))) rfl)
    (pss_one (ps_fld (pv 0) pe_str rfl)))
    pss_nil)
    (pss_one (ps_ret (pe_lst pa_nil)))), ?_⟩
  refine ⟨_, rfl, lt, _, _, _, rfl, rfl, hl, atI_nat (j := 1) rfl, _, rfl, q, C, dx, _, _, rfl, A0.hp, S.cl, S.round, caF_rnd _ _ _ _ _ _ _ _ _, _, _, rfl, rfl, _, rfl, iteT' (decide_eq_true le) ?_⟩
  refine ⟨_, rfl, lt, _, _, _, rfl, rfl, hl, atI_nat (j := 1) rfl, _, rfl, lt, _, _, _, rfl, rfl, hl, atI_nat (j := 2) rfl, _, rfl, lt, _, _, _, rfl, rfl, hl, atI_nat (j := 3) rfl, fun y dy hy hdy ne => ?_⟩
  have sy := (same_upd (o := .own y) hdy).trans (same_upd (o := .ins CK dy []) (by rw [upd_ne ne.symm]; exact hy))
  refine ⟨y, dy, u, v, r, ys, SS, ns, rfl, upd_same, sqt_same sy hu, dps_same sy _ _ du, sqt_same sy hv, nd, l60, l1, fun d l H1 hd hl1 n1 n2 n3 c1 K1 => ⟨rfl, ?_⟩⟩
  have s1 : Same H H1 := fun b o e => c1 _ _ (ne_of_none e hy) (sy _ _ e)
  have A1 := A0.same s1
  have d0 := sy.free hd
  have l0 := sy.free hl1
  have qy : q ≠ y := ne_of_none A0.hp hy
  refine ⟨_, rfl, q, C, dx, _, rfl, A1.hp, S.cl, S.key, (by show 9 < 1000; decide), ?_⟩
  rw [caF_put_key]
  refine ⟨_, rfl, q, C, dx, _, rfl, upd_same, S.cl, S.state, (by show 9 < 1000; decide), ?_⟩
  rw [upd_upd, caF_put_stt]
  have cq : Chg q H1 (upd H1 q (.ins C dx (caF me "in" false rnd ro nu (.ref y) bg pl))) := Chg.self
  have A2 : CalAt (upd H1 q (.ins C dx (caF me "in" false rnd ro nu (.ref y) bg pl))) C q dx me "in" rnd ro nu (.ref y) bg pl rs ms ps := ⟨upd_same, cq _ _ (ne_of A1.hr A1.hp (by intro z; cases z)) A1.hr, cq _ _ (ne_of A1.hn A1.hp (by intro z; cases z)) A1.hn, cq _ _ (ne_of A1.hpl A1.hp (by intro z; cases z)) A1.hpl⟩
  have K2 := K1.chg A1.hp qy.symm cq
  have c2 : ChgS [q] H (upd H1 q (.ins C dx (caF me "in" false rnd ro nu (.ref y) bg pl))) := (Same.s s1).put (by simp)
  refine ⟨Nat.zero_le _, fun z hz => ?_⟩
  exact k y dy d l z _ (c2.new hz) hy d0 l0 (A2.same (same_upd hz)) (K2.same (same_upd hz)) upd_same
/-! ### it leaves -/
def spLeaveC (K : PySem.W.Frag) (C CK : Addr) : Sp := fun vs H Q _ => ∃ (q dx k dk ro nu pl d l : Addr) (me rnd r : Int) (st : Str) (bg : V) (rs ms ns : List Int) (ps : List (Key × V)) (S : List (Int × Int)), vs = [.ref q] ∧ CalAt H C q dx me st rnd ro nu (.ref k) bg pl rs ms ps ∧ KeyAt H CK k dk r d l S ns ∧ d ≠ pl ∧
  me ∈ S.map (·.1) ∧ 0 ≤ me ∧ me < ms.length ∧ rs.Nodup ∧ (∀ m ∈ rs, 0 ≤ m ∧ m < ms.length) ∧ rs.length ≤ 60 ∧ ns.length ≤ 500 ∧
  HandK K C CK H Q [q, k, d] q dx k dk ro nu pl d me rnd r "out" bg rs ms ps (srvS S me (ms.getD me.toNat 0)) (lineUp me rs ms (srvS S me (ms.getD me.toNat 0)) ns)
theorem sc_Caller_leave : FnScope ["self"] ["self"] (defScope s_Caller_leave) :=
  ⟨rfl, rfl, rfl, by decide +kernel, rfl, by decide +kernel, by decide +kernel⟩
theorem ok_leaveC (F : Fun K "leave" "Caller.leave" s_Caller_leave f fd) (S : CalT K C) (KT : KeyT K CK) (MS : Me P w K mg base CK "serve" 1 ["self", "member", "number"] (spServe CK)) (MH : Me P w K mg base C "_hand_on" 3 ["self"] (spHandOn K C CK)) :
    FnOk P w K mg base CX0 4 f fd ["self"] (spLeaveC K C CK) := by
  obtain ⟨fS, fdS, GS, bS, mS⟩ := MS
  obtain ⟨fH, fdH, GH, bH, mH⟩ := MH
  refine F.ok sc_Caller_leave (fun vs H Q E h => ?_) (fun cdv A outer s H vs Q E hr h => ?_)
  · obtain ⟨q, _, _, _, _, _, _, _, _, _, _, _, _, _, _, _, _, _, _, rfl, _⟩ := h
    rfl
  obtain ⟨q, dx, k, dk, ro, nu, pl, d, l, me, rnd, r, st, bg, rs, ms, ns, ps, SS, rfl, A0, K0, dpl, mS', h0, h1, nd, bnd, l60, l500, HK⟩ := h
  have hr1 : Room 1 _ := hr.mono (by decide)
  refine ⟨_, (pss_cons (ps_fld (pv 0) pe_str rfl)
    (pss_cons (ps_expr (pe_meth (pe_fld (pv 0) (by rfl)) KT.cl mS GS hr1 bS .nil pass0 (pa_cons (pe_fld (pv 0) (by rfl)) (pa_cons (pe_ix ix_list (pe_fld (pv 0) (by rfl)) (pe_fld (pv 0) (by rfl)) (fun _ _ => rfl)) pa_nil))))
    (pss_one (ps_ret (pe_meth0 (pv 0) S.cl mH GH hr bH .nil pass0))))), ?_⟩
  have qk := ca_ne_ke A0.hp K0.hp
  refine ⟨_, rfl, q, C, dx, _, rfl, A0.hp, S.cl, S.state, (by show 9 < 1000; decide), ?_⟩
  rw [caF_put_stt]
  have cq : Chg q H (upd H q (.ins C dx (caF me "out" false rnd ro nu (.ref k) bg pl))) := Chg.self
  have A1 : CalAt (upd H q (.ins C dx (caF me "out" false rnd ro nu (.ref k) bg pl))) C q dx me "out" rnd ro nu (.ref k) bg pl rs ms ps := ⟨upd_same, cq _ _ (ne_of A0.hr A0.hp (by intro z; cases z)) A0.hr, cq _ _ (ne_of A0.hn A0.hp (by intro z; cases z)) A0.hn, cq _ _ (ne_of A0.hpl A0.hp (by intro z; cases z)) A0.hpl⟩
  have K1 := K0.chg A0.hp qk.symm cq
  have c1 : ChgS [q, d] H (upd H q (.ins C dx (caF me "out" false rnd ro nu (.ref k) bg pl))) := ChgS.refl.put (by simp)
  obtain ⟨H1, e1⟩ : ∃ H1, H1 = upd H q (.ins C dx (caF me "out" false rnd ro nu (.ref k) bg pl)) := ⟨_, rfl⟩
  rw [← e1] at A1 K1 c1
  rw [← e1]
  obtain ⟨nv, env⟩ : ∃ nv, nv = ms.getD me.toNat 0 := ⟨_, rfl⟩
  have att := at_ms h0 h1
  rw [← env] at att HK
  refine ⟨_, rfl, q, C, dx, _, _, rfl, A1.hp, S.cl, S.key, caF_key _ _ _ _ _ _ _ _ _, k, dk, _, rfl, K1.hp, keF_no _ _ _ (by decide +kernel) (by decide +kernel) (by decide +kernel), _, rfl, q, C, dx, _, _, rfl, A1.hp, S.cl, S.me, caF_me _ _ _ _ _ _ _ _ _, _, rfl, q, C, dx, _, _, rfl, A1.hp, S.cl, S.numbers, caF_nms _ _ _ _ _ _ _ _ _, _, rfl, q, C, dx, _, _, rfl, A1.hp, S.cl, S.me, caF_me _ _ _ _ _ _ _ _ _, nu, _, _, _, rfl, rfl, SqL.of A1.hn, att, k, dk, r, me, nv, d, l, SS, ns, rfl, K1, mS', ?_⟩
  have kk : ∀ {a : Addr} {o : HO}, H1 a = some o → (∀ kvs, o ≠ .dK kvs) → upd H1 d (.dK ((srvS SS me nv).map entI)) a = some o := fun e n => (upd_ne (fun z => by rw [z, K1.hd] at e; exact n _ (Option.some.inj e).symm)).trans e
  have A2 : CalAt (upd H1 d (.dK ((srvS SS me nv).map entI))) C q dx me "out" rnd ro nu (.ref k) bg pl rs ms ps := ⟨kk A1.hp (fun _ z => nomatch z), kk A1.hr (fun _ z => nomatch z), kk A1.hn (fun _ z => nomatch z), (upd_ne dpl.symm).trans A1.hpl⟩
  have K2 : KeyAt (upd H1 d (.dK ((srvS SS me nv).map entI))) CK k dk r d l (srvS SS me nv) ns := ⟨kk K1.hp (fun _ z => nomatch z), upd_same, kk K1.hl (fun _ z => nomatch z), by rw [srvS_fst]; exact K1.nd, by unfold srvS; rw [List.length_map]; exact K1.few, K1.few2⟩
  have c2 : ChgS [q, d] H (upd H1 d (.dK ((srvS SS me nv).map entI))) := c1.put (by simp)
  obtain ⟨H2, e2⟩ : ∃ H2, H2 = upd H1 d (.dK ((srvS SS me nv).map entI)) := ⟨_, rfl⟩
  rw [← e2] at A2 K2 c2
  rw [← e2]
  exact ⟨_, rfl, q, dx, _, rfl, A2.hp, (A2.no "_hand_on").2, q, dx, k, dk, ro, nu, pl, d, l, me, rnd, r, "out", bg, rs, ms, ns, ps, srvS SS me nv, rfl, A2, K2, nd, bnd, l60, l500, HK.from c2 (by simp) (by simp) (fun a ha => by
    rcases List.mem_cons.mp ha with z | z
    · rw [z, A2.hp]; exact fun z => nomatch z
    · rw [List.mem_singleton.mp z, K2.hd]; exact fun z => nomatch z)⟩
/-! ### it hears an ask, a key -/
def spHearC (K : PySem.W.Frag) (C CK : Addr) : Sp := fun vs H Q E => ∃ (q dx lt : Addr) (s : Int) (fs : List (Str × V)), vs = [.ref q, .int s, .ref lt] ∧ H q = some (.ins C dx fs) ∧ fs.lookup ("_hear_ask" : Str) = none ∧ fs.lookup ("_hear_key" : Str) = none ∧
  ((∃ v, SqT K H lt [.str "ask", .int v] ∧ spHearAsk K C CK [.ref q, .int s, .int v] H Q E0) ∨ (∃ xs, SqT K H lt (.str "key" :: xs) ∧ spHearKey K C CK [.ref q, .ref lt] H Q E0))
theorem sc_Caller_hear : FnScope ["self", "sender", "letter", "word"] ["self", "sender", "letter"] (defScope s_Caller_hear) :=
  ⟨rfl, rfl, rfl, by decide +kernel, rfl, by decide +kernel, by decide +kernel⟩
theorem ok_hearC (F : Fun K "hear" "Caller.hear" s_Caller_hear f fd) (S : CalT K C) (MA : Me P w K mg base C "_hear_ask" 4 ["self", "sender", "number"] (spHearAsk K C CK)) (MK : Me P w K mg base C "_hear_key" 3 ["self", "letter"] (spHearKey K C CK)) :
    FnOk P w K mg base CX0 5 f fd ["self", "sender", "letter"] (spHearC K C CK) := by
  obtain ⟨fA, fdA, GA, bA, mA⟩ := MA
  obtain ⟨fK, fdK, GK, bK, mK⟩ := MK
  refine F.ok sc_Caller_hear (fun vs H Q E h => ?_) (fun cdv A outer s H vs Q E hr h => ?_)
  · obtain ⟨q, _, _, _, _, rfl, _⟩ := h
    rfl
  obtain ⟨q, dx, lt, s', fs, rfl, hp, n1, n2, two⟩ := h
  have hr3 : Room 3 _ := hr.mono (by decide)
  refine ⟨_, (pss_cons (ps_set (i := 3) sc_Caller_hear.nd rfl (Or.inl rfl) (pe_ix ix_tup (pv 2) pe_int (fun _ _ => rfl)))
    (pss_cons (ps_if (pt_cmpR op_eq (pv 3) pe_str (nomark _))
    (pss_one (ps_ret (pe_meth (pv 0) S.cl mA GA hr bA .nil pass0 (pa_cons (pv 1) (pa_cons (pe_ix ix_tup (pv 2) pe_int (fun _ _ => rfl)) pa_nil)))))
    pss_nil)
    (pss_cons (ps_if (pt_cmpR op_eq (pv 3) pe_str (nomark _))
    (pss_one (ps_ret (pe_meth (pv 0) S.cl mK GK hr3 bK .nil pass0 (pa_cons (pv 2) pa_nil))))
    pss_nil)
    (pss_cons (ps_if (pt_cmpR op_eq (pv 3) pe_str (nomark _))
    (pss_one ps_dead)
    pss_nil)
    (pss_one ps_dead))))), ?_⟩
  rcases two with ⟨v, hl, h⟩ | ⟨xs, hl, h⟩
  · refine ⟨_, rfl, lt, _, _, _, rfl, rfl, hl, atI_nat (j := 0) rfl, ?_⟩
    refine ⟨_, rfl, rfl, _, rfl, iteT' (by decide +kernel) ?_⟩
    exact ⟨_, rfl, q, dx, _, rfl, hp, n1, _, rfl, _, rfl, lt, _, _, _, rfl, rfl, hl, atI_nat (j := 1) rfl, h⟩
  · refine ⟨_, rfl, lt, _, _, _, rfl, rfl, hl, atI_nat (j := 0) rfl, ?_⟩
    refine ⟨_, rfl, rfl, _, rfl, iteF' (by decide +kernel) ?_⟩
    refine ⟨_, rfl, rfl, _, rfl, iteT' (by decide +kernel) ?_⟩
    exact ⟨_, rfl, q, dx, _, rfl, hp, n2, _, rfl, h⟩
end

end G0
namespace G0
open PySem PySem.Spec PyProof.Rows L2 NdefX ClX
/-! ### numbers by seat -/
def msF (n : Int) (f : Int → Int) : List Int := (rangeI n).map f
def sF (n : Int) (g : Int → Int) : List (Int × Int) := (rangeI n).map fun m => (m, g m)
theorem rangeI_at {n : Int} {j : Nat} (h : (j : Int) < n) : (rangeI n)[j]? = some (j : Int) := by
  unfold rangeI
  rw [List.getElem?_map, List.getElem?_range (by omega)]
  rfl
theorem rangeI_mem {n m : Int} : m ∈ rangeI n ↔ 0 ≤ m ∧ m < n := by
  unfold rangeI
  rw [List.mem_map]
  constructor
  · rintro ⟨x, hx, rfl⟩
    have := List.mem_range.mp hx
    omega
  · rintro ⟨h0, h1⟩
    exact ⟨m.toNat, List.mem_range.mpr (by omega), by omega⟩
theorem msF_len {n : Int} {f : Int → Int} : (msF n f).length = n.toNat := by unfold msF; rw [List.length_map, rangeI_len]
theorem msF_get {n : Int} {f : Int → Int} {m : Int} (h0 : 0 ≤ m) (h1 : m < n) : (msF n f).getD m.toNat 0 = f m := by
  unfold msF
  rw [List.getD_eq_getElem?_getD, List.getElem?_map, rangeI_at (by omega)]
  show f ((m.toNat : Nat) : Int) = f m
  rw [show ((m.toNat : Nat) : Int) = m by omega]
def updI (f : Int → Int) (s v : Int) : Int → Int := fun m => if m = s then v else f m
theorem msF_set {n : Int} {f : Int → Int} {s v : Int} (h0 : 0 ≤ s) : (msF n f).set s.toNat v = msF n (updI f s v) := by
  unfold msF
  refine List.ext_getElem? fun i => ?_
  rw [List.getElem?_set, List.getElem?_map, List.getElem?_map, List.length_map]
  by_cases c : s.toNat = i
  · rw [if_pos c]
    by_cases l : s.toNat < (rangeI n).length
    · rw [if_pos l]
      rw [rangeI_len] at l
      rw [rangeI_at (by omega)]
      show some v = some (updI f s v (i : Int))
      unfold updI
      rw [if_pos (by omega)]
    · rw [if_neg l, List.getElem?_eq_none (by omega)]
      rfl
  · rw [if_neg c]
    cases e : (rangeI n)[i]? with
    | none => rfl
    | some x =>
      have li := (List.getElem?_eq_some_iff.mp e).1
      rw [rangeI_len] at li
      rw [rangeI_at (by omega)] at e
      cases e
      show some (f (i : Int)) = some (updI f s v (i : Int))
      unfold updI
      rw [if_neg (by omega)]
theorem learn_F {n : Int} {f : Int → Int} {s v : Int} (h0 : 0 ≤ s) (h1 : s < n) : learn (msF n f) s v = msF n (updI f s (if v > f s then v else f s)) := by
  unfold learn
  rw [msF_get h0 h1, msF_set h0]
theorem inc_F {n : Int} {f : Int → Int} {s : Int} (h0 : 0 ≤ s) (h1 : s < n) : inc (msF n f) s = msF n (updI f s (f s + 1)) := by
  unfold inc
  rw [msF_get h0 h1, msF_set h0]
theorem zeros_F {n : Int} : zeros n = msF n fun _ => 0 := by
  unfold zeros msF
  refine List.ext_getElem? fun i => ?_
  rw [List.getElem?_replicate, List.getElem?_map]
  by_cases c : i < n.toNat
  · rw [if_pos c, rangeI_at (by omega)]
    rfl
  · rw [if_neg c, List.getElem?_eq_none (by rw [rangeI_len]; omega)]
    rfl
theorem fresh_F {n : Int} : freshS n = sF n fun _ => 0 := rfl
theorem sF_fst {n : Int} {g : Int → Int} : (sF n g).map (·.1) = rangeI n := by
  unfold sF
  rw [List.map_map]
  exact List.map_id _
theorem sF_nd {n : Int} {g : Int → Int} : ((sF n g).map (·.1)).Nodup := by rw [sF_fst]; exact rangeI_nd n
theorem sF_len {n : Int} {g : Int → Int} : (sF n g).length = n.toNat := by unfold sF; rw [List.length_map, rangeI_len]
theorem srv_F {n : Int} {g : Int → Int} {s v : Int} : srvS (sF n g) s v = sF n (updI g s v) := by
  unfold srvS sF
  rw [List.map_map]
  refine List.map_congr_left fun m _ => ?_
  show (if m = s then (s, v) else (m, g m)) = (m, updI g s v m)
  unfold updI
  by_cases c : m = s
  · rw [if_pos c, if_pos c, c]
  · rw [if_neg c, if_neg c]
theorem due_F {n : Int} {g : Int → Int} {m v : Int} (h0 : 0 ≤ m) (h1 : m < n) : dueS (sF n g) m v = decide (g m < v) := by
  unfold dueS
  rw [ent_some (p := (m, g m)) sF_nd (by unfold sF; exact List.mem_map.mpr ⟨m, rangeI_mem.mpr ⟨h0, h1⟩, rfl⟩)]
theorem pair_eq {n : Int} {g : Int → Int} {S' : List (Int × Int)} (p : S'.Perm (sF n g)) (u : (S'.map (·.1)).Pairwise (· ≤ ·)) : S' = sF n g := by
  have p1 : (S'.map (·.1)).Perm (rangeI n) := by
    have := p.map (·.1)
    rw [sF_fst] at this
    exact this
  have r : (rangeI n).Pairwise (· ≤ ·) := by
    unfold rangeI
    exact List.pairwise_map.mpr (List.Pairwise.imp (fun h => by omega) List.pairwise_lt_range)
  have e : S'.map (·.1) = rangeI n := List.Perm.eq_of_pairwise (fun _ _ _ _ h1 h2 => Int.le_antisymm h1 h2) u r p1
  have each : ∀ q ∈ S', q = (q.1, g q.1) := fun q hq => by
    have := p.mem_iff.mp hq
    unfold sF at this
    obtain ⟨m, _, rfl⟩ := List.mem_map.mp this
    rfl
  unfold sF
  rw [← e, List.map_map]
  refine (List.map_id S').symm.trans (List.map_congr_left fun q hq => ?_)
  exact each q hq
/-! ### the order of a line -/
def rgI (a b : Int) : List Int := (List.range (b - a).toNat).map fun x : Nat => a + (x : Int)
theorem rgV_I {a b : Int} : rgV a b = (rgI a b).map V.int := by
  unfold rgV rgI
  rw [List.map_map]
  rfl
theorem rgI_mem {a b m : Int} : m ∈ rgI a b ↔ a ≤ m ∧ m < b := by
  unfold rgI
  rw [List.mem_map]
  constructor
  · rintro ⟨x, hx, rfl⟩
    have := List.mem_range.mp hx
    omega
  · rintro ⟨h0, h1⟩
    exact ⟨(m - a).toNat, List.mem_range.mpr (by omega), by omega⟩
theorem rgI_up {a b : Int} : (rgI a b).Pairwise (· < ·) := by
  unfold rgI
  exact List.pairwise_map.mpr (List.Pairwise.imp (fun h => by omega) List.pairwise_lt_range)
theorem rangeI_up {n : Int} : (rangeI n).Pairwise (· < ·) := by
  unfold rangeI
  exact List.pairwise_map.mpr (List.Pairwise.imp (fun h => by omega) List.pairwise_lt_range)
theorem up_ext {l m : List Int} (hl : l.Pairwise (· < ·)) (hm : m.Pairwise (· < ·)) (h : ∀ x, x ∈ l ↔ x ∈ m) : l = m := by
  have p : l.Perm m := (List.perm_ext_iff_of_nodup (hl.imp fun h => by omega) (hm.imp fun h => by omega)).mpr h
  exact List.Perm.eq_of_pairwise (fun a b _ _ (h1 : a ≤ b) h2 => Int.le_antisymm h1 h2) (hl.imp fun h => by omega) (hm.imp fun h => by omega) p
theorem ordR_range {n b : Int} (h0 : 0 ≤ b) (h1 : b < n) : ordR (rangeI n) b = rgI (b + 1) n ++ rgI 0 (b + 1) := by
  unfold ordR
  rw [up_ext (rangeI_up.filter _) rgI_up (m := rgI (b + 1) n) (fun x => by rw [List.mem_filter, rangeI_mem, rgI_mem, decide_eq_true_eq]; omega), up_ext (rangeI_up.filter _) rgI_up (m := rgI 0 (b + 1)) (fun x => by rw [List.mem_filter, rangeI_mem, rgI_mem, decide_eq_true_eq]; omega)]
/-- who is in `some`, from the one behind b on -/
def rndF (n b : Int) (p : Int → Bool) : List Int := (rgI (b + 1) n ++ rgI 0 (b + 1)).filter p
theorem rndF_mem {n b m : Int} {p : Int → Bool} (h0 : 0 ≤ b) (h1 : b < n) : m ∈ rndF n b p ↔ (0 ≤ m ∧ m < n) ∧ p m = true := by
  unfold rndF
  rw [List.mem_filter, List.mem_append, rgI_mem, rgI_mem]
  constructor
  · rintro ⟨h, hp⟩
    exact ⟨by omega, hp⟩
  · rintro ⟨h, hp⟩
    exact ⟨by omega, hp⟩
theorem lineUp_F {n b : Int} {f g : Int → Int} {ns : List Int} (h0 : 0 ≤ b) (h1 : b < n) (hn : ∀ m ∈ ns, 0 ≤ m ∧ m < n) : lineUp b (rangeI n) (msF n f) (sF n g) ns = ns ++ rndF n b fun m => !decide (m ∈ ns) && decide (g m < f m) := by
  have ek : keepL ns (rangeI n) = ns := by
    unfold keepL
    exact List.filter_eq_self.mpr fun m hm => decide_eq_true (rangeI_mem.mpr (hn m hm))
  unfold lineUp rndF
  rw [ek, ordR_range h0 h1]
  refine congrArg _ (List.filter_congr fun m hm => ?_)
  have mb : 0 ≤ m ∧ m < n := by
    rcases List.mem_append.mp hm with z | z <;> have := rgI_mem.mp z <;> omega
  rw [due_F mb.1 mb.2, msF_get mb.1 mb.2]
theorem lineUp_len {n b : Int} {p : Int → Bool} (h0 : 0 ≤ b) (h1 : b < n) (h2 : n ≤ 60) : (rndF n b p).length ≤ 60 := by
  unfold rndF
  refine Nat.le_trans (List.length_filter_le _ _) ?_
  rw [List.length_append]
  unfold rgI
  rw [List.length_map, List.length_map, List.length_range, List.length_range]
  omega

end G0
namespace G0
open PySem PySem.Spec PyProof.Rows L2 NdefX ClX
section
variable {C CK : Addr}
/-! ### a row of callers, one of which may have the key -/
structure Ky where
  k : Addr
  dk : Addr
  d : Addr
  l : Addr
  g : Int → Int
  ns : List Int
structure Ca where
  o : Addr
  dx : Addr
  ro : Addr
  nu : Addr
  pl : Addr
  st : Str
  f : Int → Int
  key : Option Ky
def keyV : Option Ky → V
  | none => .non
  | some y => .ref y.k
structure CaAt (H : Hp) (C CK : Addr) (n : Int) (i : Int) (c : Ca) : Prop where
  at_ : CalAt H C c.o c.dx i c.st 0 c.ro c.nu (keyV c.key) .non c.pl (rangeI n) (msF n c.f) []
  key : ∀ y, c.key = some y → KeyAt H CK y.k y.dk 0 y.d y.l (sF n y.g) y.ns
theorem CaAt.same {H H' : Hp} {n i : Int} {c : Ca} (h : CaAt H C CK n i c) (s : Same H H') : CaAt H' C CK n i c := ⟨h.at_.same s, fun y e => (h.key y e).same s⟩
def foot (c : Ca) : List Addr := [c.o, c.nu] ++ match c.key with | some y => [y.k, y.d] | none => []
structure WC (H : Hp) (C CK L : Addr) (n : Int) (cs : List Ca) : Prop where
  at_ : H L = some (.lst ((cs.map (·.o)).map V.ref))
  len : cs.length = n.toNat
  all : ∀ (i : Nat) c, cs[i]? = some c → CaAt H C CK n (i : Int) c
  os : (cs.map (·.o)).Nodup
  nus : (cs.map (·.nu)).Nodup
  nr : ∀ c ∈ cs, ∀ c' ∈ cs, c.nu ≠ c'.ro
  kl : ∀ c ∈ cs, ∀ y, c.key = some y → ∀ c' ∈ cs, y.l ≠ c'.nu ∧ y.l ≠ c'.ro
  one : ∀ (i j : Nat) c c', cs[i]? = some c → cs[j]? = some c' → c.key ≠ none → c'.key ≠ none → i = j
theorem WC.same {H H' : Hp} {L : Addr} {n : Int} {cs : List Ca} (W : WC H C CK L n cs) (s : Same H H') : WC H' C CK L n cs :=
  { W with at_ := s _ _ W.at_, all := fun i c e => (W.all i c e).same s }
/-- what stays while one caller changes: all but instances, dicts and its own numbers -/
def FrN (N : List Addr) (H H' : Hp) : Prop := ∀ a o, H a = some o → (∀ D d fs, o ≠ .ins D d fs) → (∀ kvs, o ≠ .dK kvs) → ((∃ xs, o = .lst xs) → a ∉ N) → H' a = some o
theorem FrN.trans {N : List Addr} {H H1 H2 : Hp} (a : FrN N H H1) (b : FrN N H1 H2) : FrN N H H2 := fun x o e n1 n2 n3 => b x o (a x o e n1 n2 n3) n1 n2 n3
theorem Same.frn {N : List Addr} {H H1 : Hp} (a : Same H H1) : FrN N H H1 := fun x o e _ _ _ => a x o e
theorem sqt_frn {K : PySem.W.Frag} {N : List Addr} {H H' : Hp} (c : FrN N H H') {a : Addr} {xs : List V} (h : SqT K H a xs) : SqT K H' a xs := by
  rcases h with (z | ⟨o', z⟩) | z
  · exact .inl (.inl (c _ _ z (fun _ _ _ e => nomatch e) (fun _ e => nomatch e) (fun ⟨_, e⟩ => nomatch e)))
  · exact .inl (.inr ⟨o', c _ _ z (fun _ _ _ e => nomatch e) (fun _ e => nomatch e) (fun ⟨_, e⟩ => nomatch e)⟩)
  · exact .inr z
theorem lst_frn {N : List Addr} {H H' : Hp} (c : FrN N H H') {a : Addr} {xs : List V} (h : H a = some (.lst xs)) (n : a ∉ N) : H' a = some (.lst xs) :=
  c _ _ h (fun _ _ _ e => nomatch e) (fun _ e => nomatch e) fun _ => n
section
variable {H H' : Hp} {L : Addr} {n : Int} {cs : List Ca} {i : Nat} {c c' : Ca}
theorem CaAt.ins (h : CaAt H C CK n (i : Int) c) : ∃ D d fs, H c.o = some (.ins D d fs) := ⟨_, _, _, h.at_.hp⟩
/-- what a caller's deed changes, seen from outside -/
theorem WC.frn (W : WC H C CK L n cs) (hi : cs[i]? = some c) (ch : ChgS (foot c) H H') : FrN (cs.map (·.nu)) H H' := fun a o e n1 n2 n3 => by
  refine ch a o (fun m => ?_) e
  have A := W.all i c hi
  unfold foot at m
  rcases List.mem_append.mp m with m | m
  · simp only [List.mem_cons, List.not_mem_nil, or_false] at m
    rcases m with rfl | rfl
    · rw [A.at_.hp] at e; exact n1 _ _ _ (Option.some.inj e).symm
    · rw [A.at_.hn] at e
      exact n3 ⟨_, (Option.some.inj e).symm⟩ (List.mem_map.mpr ⟨c, List.mem_of_getElem? hi, rfl⟩)
  · cases ek : c.key with
    | none => rw [ek] at m; exact absurd m List.not_mem_nil
    | some y =>
      rw [ek] at m
      have KA := A.key y ek
      simp only [List.mem_cons, List.not_mem_nil, or_false] at m
      rcases m with rfl | rfl
      · rw [KA.hp] at e; exact n1 _ _ _ (Option.some.inj e).symm
      · rw [KA.hd] at e; exact n2 _ (Option.some.inj e).symm
theorem nd_ne {α : Type} {g : Ca → α} (h : (cs.map g).Nodup) {j : Nat} {c2 : Ca} (hi : cs[i]? = some c) (hj : cs[j]? = some c2) (ne : i ≠ j) : g c ≠ g c2 := fun e => by
  have h1 : (cs.map g)[i]? = some (g c) := by rw [List.getElem?_map, hi]; rfl
  have h2 : (cs.map g)[j]? = some (g c) := by rw [List.getElem?_map, hj, e]; rfl
  exact ne ((List.getElem?_inj (List.getElem?_eq_some_iff.mp h1).1 h).mp (h1.trans h2.symm))
theorem WC.set (W : WC H C CK L n cs) (n1 : 1 ≤ n) (hi : cs[i]? = some c) (ch : ChgS (foot c) H H') (hc' : CaAt H' C CK n (i : Int) c') (eo : c'.o = c.o) (en : c'.nu = c.nu) (er : c'.ro = c.ro)
    (kok : ∀ y, c'.key = some y → ∀ c2 ∈ cs, y.l ≠ c2.nu ∧ y.l ≠ c2.ro) (ook : c'.key ≠ none → ∀ (j : Nat) c2, cs[j]? = some c2 → j ≠ i → c2.key = none) : WC H' C CK L n (cs.set i c') := by
  have A := W.all i c hi
  have il := (List.getElem?_eq_some_iff.mp hi).1
  have lst_foot : ∀ {a : Addr} {xs : List V}, H a = some (.lst xs) → a ≠ c.nu → a ∉ foot c := fun {a xs} e ne m => by
    unfold foot at m
    rcases List.mem_append.mp m with m | m
    · simp only [List.mem_cons, List.not_mem_nil, or_false] at m
      rcases m with rfl | rfl
      · rw [A.at_.hp] at e; cases e
      · exact ne rfl
    · cases ek : c.key with
      | none => rw [ek] at m; exact absurd m List.not_mem_nil
      | some y =>
        rw [ek] at m
        have KA := A.key y ek
        simp only [List.mem_cons, List.not_mem_nil, or_false] at m
        rcases m with rfl | rfl
        · rw [KA.hp] at e; cases e
        · rw [KA.hd] at e; cases e
  have emap : ∀ {α : Type} (g : Ca → α), g c' = g c → (cs.set i c').map g = cs.map g := fun g eg => by
    rw [List.map_set, eg]
    refine List.ext_getElem? fun j => ?_
    rw [List.getElem?_set]
    by_cases cj : i = j
    · subst cj
      rw [if_pos rfl, List.length_map, if_pos il, List.getElem?_map, hi]
      rfl
    · rw [if_neg cj]
  have memS : ∀ c2 ∈ cs.set i c', ∃ c3 ∈ cs, c2.nu = c3.nu ∧ c2.ro = c3.ro := fun c2 h => by
    rcases List.mem_or_eq_of_mem_set h with z | z
    · exact ⟨c2, z, rfl, rfl⟩
    · exact ⟨c, List.mem_of_getElem? hi, by rw [z, en], by rw [z, er]⟩
  refine ⟨?_, by rw [List.length_set]; exact W.len, fun j c2 hj => ?_, by rw [emap (·.o) eo]; exact W.os, by rw [emap (·.nu) en]; exact W.nus, fun c2 h2 c3 h3 => ?_, fun c2 h2 y ey c3 h3 => ?_, fun j k c2 c3 hj hk nj nk => ?_⟩
  · rw [emap (·.o) eo]
    refine ch _ _ (lst_foot W.at_ fun e => ?_) W.at_
    have h1 := W.at_
    rw [e, A.at_.hn] at h1
    have h2 := Option.some.inj h1
    injection h2 with h3
    have l0 : 0 < (msF n c.f).length := by rw [msF_len]; omega
    have h4 := congrArg (fun z : List V => z[0]?) h3
    simp only [List.getElem?_map] at h4
    rw [List.getElem?_eq_getElem l0] at h4
    cases hh : cs[0]? with
    | none => rw [hh] at h4; cases h4
    | some c0 => rw [hh] at h4; cases h4
  · rw [List.getElem?_set] at hj
    by_cases cj : i = j
    · subst cj
      rw [if_pos rfl, if_pos il] at hj
      cases hj
      exact hc'
    · rw [if_neg cj] at hj
      have B := W.all j c2 hj
      have m2 := List.mem_of_getElem? hj
      have mc := List.mem_of_getElem? hi
      have ne_o : c2.o ≠ c.o := nd_ne W.os hj hi (fun e => cj e.symm)
      have ne_n : c2.nu ≠ c.nu := nd_ne W.nus hj hi (fun e => cj e.symm)
      have ins_foot : ∀ {a : Addr} {D d : Addr} {fs : List (Str × V)}, H a = some (.ins D d fs) → a ≠ c.o → (∀ y, c.key = some y → a ≠ y.k) → a ∉ foot c := fun {a D d fs} e ne nk m => by
        unfold foot at m
        rcases List.mem_append.mp m with m | m
        · simp only [List.mem_cons, List.not_mem_nil, or_false] at m
          rcases m with rfl | rfl
          · exact ne rfl
          · rw [A.at_.hn] at e; cases e
        · cases ek : c.key with
          | none => rw [ek] at m; exact absurd m List.not_mem_nil
          | some y =>
            rw [ek] at m
            simp only [List.mem_cons, List.not_mem_nil, or_false] at m
            rcases m with rfl | rfl
            · exact nk y ek rfl
            · rw [(A.key y ek).hd] at e; cases e
      have dk_foot : ∀ {a : Addr} {kvs : List (Key × V)}, H a = some (.dK kvs) → (∀ y, c.key = some y → a ≠ y.d) → a ∉ foot c := fun {a kvs} e nk m => by
        unfold foot at m
        rcases List.mem_append.mp m with m | m
        · simp only [List.mem_cons, List.not_mem_nil, or_false] at m
          rcases m with rfl | rfl
          · rw [A.at_.hp] at e; cases e
          · rw [A.at_.hn] at e; cases e
        · cases ek : c.key with
          | none => rw [ek] at m; exact absurd m List.not_mem_nil
          | some y =>
            rw [ek] at m
            simp only [List.mem_cons, List.not_mem_nil, or_false] at m
            rcases m with rfl | rfl
            · rw [(A.key y ek).hp] at e; cases e
            · exact nk y ek rfl
      refine ⟨⟨ch _ _ (ins_foot B.at_.hp ne_o fun y ey => ca_ne_ke B.at_.hp (A.key y ey).hp) B.at_.hp, ch _ _ (lst_foot B.at_.hr (W.nr c mc c2 m2).symm) B.at_.hr, ch _ _ (lst_foot B.at_.hn ne_n) B.at_.hn, ch _ _ (dk_foot B.at_.hpl fun y ey e => ?_) B.at_.hpl⟩, fun y2 ey2 => ?_⟩
      · have h1 := B.at_.hpl
        rw [e, (A.key y ey).hd] at h1
        have h2 := Option.some.inj h1
        injection h2 with h3
        have h4 := congrArg List.length h3
        rw [List.length_map, sF_len, List.length_nil] at h4
        omega
      · have kn : c.key = none := by
          cases ek : c.key with
          | none => rfl
          | some y => exact absurd (W.one i j c c2 hi hj (by rw [ek]; exact fun z => nomatch z) (by rw [ey2]; exact fun z => nomatch z)) cj
        have KB := B.key y2 ey2
        exact { KB with
          hp := ch _ _ (ins_foot KB.hp (ca_ne_ke A.at_.hp KB.hp).symm fun y ey => by rw [kn] at ey; cases ey) KB.hp
          hd := ch _ _ (dk_foot KB.hd fun y ey => by rw [kn] at ey; cases ey) KB.hd
          hl := ch _ _ (lst_foot KB.hl (W.kl c2 m2 y2 ey2 c mc).1) KB.hl }
  · obtain ⟨a2, m2, e2, _⟩ := memS c2 h2
    obtain ⟨a3, m3, _, e3⟩ := memS c3 h3
    rw [e2, e3]
    exact W.nr a2 m2 a3 m3
  · obtain ⟨a3, m3, e3, e4⟩ := memS c3 h3
    rw [e3, e4]
    rcases List.mem_or_eq_of_mem_set h2 with z | z
    · exact W.kl c2 z y ey a3 m3
    · rw [z] at ey
      exact kok y ey a3 m3
  · rw [List.getElem?_set] at hj hk
    by_cases cj : i = j
    · subst cj
      by_cases ck : i = k
      · exact ck
      · rw [if_neg ck] at hk
        rw [if_pos rfl, if_pos il] at hj
        cases hj
        exact absurd (ook nj k c3 hk (fun e => ck e.symm)) nk
    · rw [if_neg cj] at hj
      by_cases ck : i = k
      · subst ck
        rw [if_pos rfl, if_pos il] at hk
        cases hk
        exact absurd (ook nk j c2 hj (fun e => cj e.symm)) nj
      · rw [if_neg ck] at hk
        exact W.one j k c2 c3 hj hk nj nk
theorem WC.caller (W : WC H C CK L n cs) {m : Int} (h0 : 0 ≤ m) (h1 : m < n) : ∃ c, cs[m.toNat]? = some c ∧ CaAt H C CK n m c ∧ atI ((cs.map (·.o)).map V.ref) m = some (.ref c.o) := by
  have l := W.len
  have lt : m.toNat < cs.length := by omega
  refine ⟨cs[m.toNat], List.getElem?_eq_getElem lt, ?_, ?_⟩
  · have := W.all m.toNat _ (List.getElem?_eq_getElem lt)
    rw [show ((m.toNat : Nat) : Int) = m by omega] at this
    exact this
  · have : atI ((cs.map (·.o)).map V.ref) ((m.toNat : Nat) : Int) = some (.ref cs[m.toNat].o) := atI_nat (by rw [List.getElem?_map, List.getElem?_map, List.getElem?_eq_getElem lt]; rfl)
    rw [show ((m.toNat : Nat) : Int) = m by omega] at this
    exact this
end
end

end G0
namespace G0
open PySem PySem.Spec PyProof.Rows L2 NdefX ClX
section
variable {P : Program} {w : World} {K : PySem.W.Frag} {mg : Str → Option Value} {base : Heap} {C CK : Addr}
/-! ### the law's small defs -/
structure BlT72 (mg : Str → Option Value) : Prop extends BlL72 mg where
  tuple : mg "tuple" = none
  range : mg "range" = none
def spCell (K : PySem.W.Frag) : Sp := fun vs H Q _ => ∃ (a : Addr) (ns : List Int) (k : Int), vs = [.ref a, .int k] ∧ SqL K H a (ns.map V.int) ∧ 0 ≤ k ∧ (∀ z ∈ ns, Builtin.Int.intBits z ≤ 1048576) ∧ ∀ c : Int, Builtin.Int.intBits c ≤ 1048576 → Q (.int c) H
theorem sc_law_cell_at : FnScope ["script", "k"] ["script", "k"] (defScope s_law_cell_at) :=
  ⟨rfl, rfl, rfl, by decide +kernel, rfl, by decide +kernel, by decide +kernel⟩
theorem ok_cell (F : Fn K mg "_law_cell_at" s_law_cell_at) (T : BlL72 mg) : Cal P w K mg base "_law_cell_at" 1 ["script", "k"] (spCell K) := by
  refine cal_of F sc_law_cell_at
    (fun _ _ _ _ _ _ us hl => match us, hl with | [_, _], _ => rfl) ?_ ?_
  · rintro vs H Q E ⟨a, ns, k, rfl, _⟩
    rfl
  rintro f cdv A outer s H vs Q E free hr ⟨a, ns, k, rfl, hS, k0, bits, q⟩
  refine ⟨_, (pss_cons (ps_if (pt_cmpR op_lt (pv 1) (pe_callB call_len_seq (by rfl) T.len (by decide +kernel) (pa_cons (pv 0) pa_nil)) (nomark _))
    (pss_one (ps_ret (pe_ix ix_list (pv 0) (pv 1) (fun _ _ => rfl))))
    pss_nil)
    (pss_one (ps_ret pe_int))), ?_⟩
  refine ⟨_, rfl, _, rfl, a, _, rfl, .inl hS, _, _, rfl, rfl, _, rfl, ?_⟩
  refine ite2 (fun c => ?_) (fun c => ?_)
  · have c' : k < (((ns.map V.int).length : Nat) : Int) := of_decide_eq_true c
    rw [List.length_map] at c'
    have hk : k.toNat < ns.length := by omega
    have at_ : atI (ns.map V.int) k = some (.int ns[k.toNat]) := by
      have := atI_nat (xs := ns.map V.int) (j := k.toNat) (v := .int ns[k.toNat]) (by rw [List.getElem?_map, List.getElem?_eq_getElem hk]; rfl)
      rwa [show ((k.toNat : Nat) : Int) = k by omega] at this
    exact ⟨_, rfl, _, rfl, a, _, _, _, rfl, rfl, hS, at_, q _ (bits _ (List.getElem_mem hk))⟩
  · exact q _ (by decide)
/-! ### _law_cells -/
def bitB (bits x : Int) : Bool := decide (Builtin.bitAnd (bits / 2 ^ x.toNat) 1 = 1)
def spAmong (K : PySem.W.Frag) : Sp := fun vs H Q _ => ∃ (bits : Int) (sl : Addr) (xs : List Int), vs = [.int bits, .ref sl] ∧ H sl = some (.lst (xs.map V.int)) ∧ xs.length ≤ 1000 ∧ (∀ x ∈ xs, 0 ≤ x ∧ x < 64) ∧
  ∀ l H', Same H H' → H l = none → H' l = some (.lst ((xs.filter (bitB bits)).map V.int)) → Q (.ref l) H'
theorem sc_law_among : FnScope ["bits", "seats", "seat"] ["bits", "seats"] (defScope s_law_among) :=
  ⟨rfl, rfl, rfl, by decide +kernel, rfl, by decide +kernel, by decide +kernel⟩
theorem ok_among (F : Fn K mg "_law_among" s_law_among) : Cal P w K mg base "_law_among" 1 ["bits", "seats"] (spAmong K) := by
  refine cal_of F sc_law_among
    (fun _ _ _ _ _ _ us hl => match us, hl with | [_, _], _ => rfl) ?_ ?_
  · rintro vs H Q E ⟨_, _, _, rfl, _⟩
    rfl
  rintro f cdv A outer s H vs Q E free hr ⟨bits, sl, xs, rfl, hs, l1, bx, q⟩
  refine ⟨_, (pss_one (ps_ret (pe_lc (own := [("seat", 2)]) (g := gName 2)  (by rfl) sc_law_among.nd (pi_list (pv 1)) (blkOk_by (N := ["bits", "seats", "seat"]) (sc := defScope s_law_among) (by decide +kernel)) (fun _ _ _ _ _ => pg_name (i := 2) sc_law_among.nd rfl (Or.inl rfl)) (fun _ _ _ _ _ => pts_one (pt_cmpR op_eq (pe_op op_and (pe_op op_shr (pv 0) (pv 2)) pe_int) pe_int (nomark _))) (fun _ _ _ _ _ => (pv 2))))), ?_⟩
  refine ⟨_, rfl, sl, rfl, ⟨_, SqL.of hs⟩, fun D hD => ?_⟩
  refine lc_filtI (K := K) (a := sl) (ns := xs) (bitB bits) (by omega) hD (SqL.of hs) (fun i x G Y B hx sG h => ?_) (fun G sG kD => q D G sG hD kD)
  have b := bx x (List.mem_of_getElem? hx)
  refine ⟨rfl, _, rfl, _, rfl, _, _, rfl, rfl, b.1, _, _, rfl, rfl, rfl, _, rfl, ?_⟩
  exact tst (by rw [dec_ii]; rfl) (fun y => ⟨_, rfl, y⟩) h
def spRound (K : PySem.W.Frag) : Sp := fun vs H Q _ => ∃ (n b : Int) (sm : Addr) (xs : List Int), vs = [.int n, .int b, .ref sm] ∧ H sm = some (.lst (xs.map V.int)) ∧ 0 ≤ b ∧ b < n ∧ n ≤ 60 ∧
  ∀ l H', Same H H' → H l = none → H' l = some (.lst ((rndF n b fun m => decide (m ∈ xs)).map V.int)) → Q (.ref l) H'
theorem sc_law_round_from : FnScope ["seats", "me", "some", "seat"] ["seats", "me", "some"] (defScope s_law_round_from) :=
  ⟨rfl, rfl, rfl, by decide +kernel, rfl, by decide +kernel, by decide +kernel⟩
theorem ok_round (F : Fn K mg "_law_round_from" s_law_round_from) (hR : mg "range" = none) (hL : mg "list" = none) : Cal P w K mg base "_law_round_from" 1 ["seats", "me", "some"] (spRound K) := by
  refine cal_of F sc_law_round_from
    (fun _ _ _ _ _ _ us hl => match us, hl with | [_, _, _], _ => rfl) ?_ ?_
  · rintro vs H Q E ⟨_, _, _, _, rfl, _⟩
    rfl
  rintro f cdv A outer s H vs Q E free hr ⟨n, b, sm, xs, rfl, hs, b0, b1, n60, q⟩
  refine ⟨_, (pss_one (ps_ret (pe_lc (own := [("seat", 3)]) (g := gName 3)  (by rfl) sc_law_round_from.nd (pi_list (pe_op op_cat (pe_listRg (by rfl) (by rfl) hL (prg_2 (by rfl) hR (pe_op op_add (pv 1) pe_int) (pv 0))) (pe_listRg (by rfl) (by rfl) hL (prg_1 (by rfl) hR (pe_op op_add (pv 1) pe_int))))) (blkOk_by (N := ["seats", "me", "some", "seat"]) (sc := defScope s_law_round_from) (by decide +kernel)) (fun _ _ _ _ _ => pg_name (i := 3) sc_law_round_from.nd rfl (Or.inl rfl)) (fun _ _ _ _ _ => pts_one (pt_cmpR (u_inK K) (pv 3) (pv 2) (by rfl))) (fun _ _ _ _ _ => (pv 3))))), ?_⟩
  refine ⟨_, rfl, _, _, rfl, rfl, _, rfl, _, _, rfl, rfl, RgOk.of_le (by omega) (by omega) (by omega) (by omega), fun l1 h1 => ?_⟩
  rw [rgV_I]
  have s1 := same_upd (o := .lst ((rgI (b + 1) n).map V.int)) h1
  refine ⟨_, rfl, _, _, rfl, rfl, _, rfl, RgOk.of_le (by omega) (by omega) (by omega) (by omega), fun l2 h2 => ?_⟩
  rw [rgV_I]
  have s2 := same_upd (o := .lst ((rgI 0 (b + 1)).map V.int)) h2
  have len : (rgI (b + 1) n ++ rgI 0 (b + 1)).length ≤ 100 := by
    rw [List.length_append]
    unfold rgI
    rw [List.length_map, List.length_map, List.length_range, List.length_range]
    omega
  refine ⟨l1, l2, _, _, rfl, rfl, s2 _ _ upd_same, upd_same, by rw [← List.length_append, ← List.map_append, List.length_map]; exact Nat.le_trans len (by decide), fun l3 h3 => ?_⟩
  rw [← List.map_append]
  have s3 := same_upd (o := .lst ((rgI (b + 1) n ++ rgI 0 (b + 1)).map V.int)) h3
  have s13 := (s1.trans s2).trans s3
  refine ⟨l3, rfl, ⟨_, SqL.of upd_same⟩, fun D hD => ?_⟩
  refine lc_filtI (K := K) (a := l3) (ns := rgI (b + 1) n ++ rgI 0 (b + 1)) (fun m => decide (m ∈ xs)) (by omega) hD (SqL.of upd_same) (fun i x G Y B hx sG h => ?_) (fun G sG kD => q D G (s13.trans sG) (s13.free hD) kD)
  refine ⟨rfl, _, rfl, _, rfl, .inl ⟨sm, _, rfl, .inl (SqL.of ((s13.trans sG) _ _ hs)), rfl, flat_ints _, _, rfl, ?_⟩⟩
  exact tst (by rw [inV_ints]; rfl) (fun y => ⟨_, rfl, y⟩) h
end
section
variable {P : Program} {w : World} {K : PySem.W.Frag} {mg : Str → Option Value} {base : Heap} {C CK : Addr}
/-- the numbers of a row, as pairs -/
def spPairs (K : PySem.W.Frag) : Sp := fun vs H Q _ => ∃ (sv : Addr) (n : Int) (g : Int → Int), vs = [.ref sv] ∧ H sv = some (.lst ((msF n g).map V.int)) ∧ 0 ≤ n ∧ n ≤ 60 ∧
  ∀ t H', Same H H' → Dp K H' (.ref t) (.tuple ((sF n g).map pairD)) → Q (.ref t) H'
theorem sc_law_pairs : FnScope ["served", "seat"] ["served"] (defScope s_law_pairs) :=
  ⟨rfl, rfl, rfl, by decide +kernel, rfl, by decide +kernel, by decide +kernel⟩
theorem ok_pairs (F : Fn K mg "_law_pairs" s_law_pairs) (T : BlT72 mg) : Cal P w K mg base "_law_pairs" 1 ["served"] (spPairs K) := by
  refine cal_of F sc_law_pairs
    (fun _ _ _ _ _ _ us hl => match us, hl with | [_], _ => rfl) ?_ ?_
  · rintro vs H Q E ⟨_, _, _, rfl, _⟩
    rfl
  rintro f cdv A outer s H vs Q E free hr ⟨sv, n, g, rfl, hs, n0, n60, q⟩
  refine ⟨_, (pss_one (ps_ret (pe_callTy call_tuple_of (by rfl) T.tuple (by decide +kernel) (pa_cons (pe_lc (own := [("seat", 1)]) (g := gName 1) (tt := tYes) (by rfl) sc_law_pairs.nd (pi_range1 (by rfl) T.range (pa_cons (pe_callB call_len_seq (by rfl) T.len (by decide +kernel) (pa_cons (pv 0) pa_nil)) pa_nil)) (blkOk_by (N := ["served", "seat"]) (sc := defScope s_law_pairs) (by decide +kernel)) (fun _ _ _ _ _ => pg_name (i := 1) sc_law_pairs.nd rfl (Or.inl rfl)) (fun _ _ _ _ _ => pts_nil) (fun _ _ _ _ _ => (pe_tup (pa_cons (pv 1) (pa_cons (pe_ix (ix_listK K) (pv 0) (pv 1) (fun _ _ => rfl)) pa_nil))))) pa_nil)))), ?_⟩
  have lm : ((msF n g).map V.int).length = n.toNat := by rw [List.length_map, msF_len]
  refine ⟨_, rfl, sv, _, rfl, .inl (SqL.of hs), ?_⟩
  rw [lm]
  refine ⟨_, rfl, by omega, by omega, fun D hD => ?_⟩
  refine lc_range (lo := 0) (n := _) (fun i G => Same H G ∧ ∃ zs, zs.length = i ∧ G D = some (.lst zs) ∧ DpAll K G zs (((sF n g).take i).map pairD)) ⟨same_upd hD, [], rfl, upd_same, .nil⟩ ?_ ?_
  · rintro i G hi ⟨sG, zs, lz, kD, dz⟩
    have hi' : (i : Int) < n := by
      have : i < ((n.toNat : Nat) : Int).toNat := hi
      omega
    have ati : atI ((msF n g).map V.int) (0 + (i : Int)) = some (.int (g (i : Int))) := by
      rw [Int.zero_add]
      refine atI_nat ?_
      unfold msF
      rw [List.getElem?_map, List.getElem?_map, rangeI_at hi']
      rfl
    refine ⟨rfl, lc_yes ?_⟩
    refine ⟨_, rfl, _, rfl, _, rfl, sv, _, _, _, rfl, rfl, SqL.of (sG _ _ hs), ati, by show 2 ≤ sizeLine; decide, fun t ht => ?_⟩
    have st := same_upd (o := .tup [.int (0 + (i : Int)), .int (g (i : Int))]) ht
    have kD2 := st _ _ kD
    refine ⟨_, kD2, Nat.lt_of_lt_of_le (show zs.length < 100 by omega) (by decide), fun c o e => ?_, zs ++ [.ref t], by rw [List.length_append, lz]; rfl, upd_same, ?_⟩
    · rw [upd_ne (ne_of_none e hD)]
      exact st _ _ (sG _ _ e)
    · have eS : (sF n g)[i]? = some ((i : Int), g (i : Int)) := by
        unfold sF
        rw [List.getElem?_map, rangeI_at hi']
        rfl
      refine dps_chg ⟨_, kD2⟩ Chg.self _ _ (noLs_pairs _) ?_
      rw [List.take_succ, eS, List.map_append]
      refine dps_app (dps_same st _ _ dz) (.cons (.tup (SqT.of upd_same) (.cons ?_ (.cons (.int _) .nil))) .nil)
      rw [Int.zero_add]
      exact .int _
  · rintro G ⟨sG, zs, lz, kD, dz⟩
    have el : (sF n g).take (((n.toNat : Nat) : Int) - 0).toNat = sF n g := List.take_of_length_le (by rw [sF_len]; omega)
    refine ⟨D, zs, rfl, .inl ⟨SqL.of kD, fun t ht => ?_⟩⟩
    have st := same_upd (o := .tup zs) ht
    refine q t _ (sG.trans st) (.tup (SqT.of upd_same) (dps_same st _ _ ?_))
    have e2 : ((n.toNat : Nat) : Int).toNat = n.toNat := by omega
    rw [show (sF n g).take _ = sF n g from List.take_of_length_le (by rw [sF_len]; first | exact Nat.le_refl _ | omega)] at dz
    exact dz
end


end G0
namespace G0
open PySem PySem.Spec PyProof.Rows L2 NdefX ClX
mutual
theorem dp_frn {K : PySem.W.Frag} {N : List Addr} {H H' : Hp} (c : FrN N H H') : ∀ (d : PyData) (v : V), noL d = true → Dp K H v d → Dp K H' v d
  | .none, _, _, h => by cases h; exact .non
  | .bool _, _, _, h => by cases h; exact .bl _
  | .int _, _, _, h => by cases h; exact .int _
  | .str _, _, _, h => by cases h; exact .str _
  | .list _, _, n, _ => by simp [noL] at n
  | .dict _, _, n, _ => by simp [noL] at n
  | .tuple ds, _, n, h => by
    cases h with
    | tup hs ha => exact .tup (sqt_frn c hs) (dps_frn c ds _ (by simpa [noL] using n) ha)
theorem dps_frn {K : PySem.W.Frag} {N : List Addr} {H H' : Hp} (c : FrN N H H') : ∀ (ds : List PyData) (vs : List V), noLs ds = true → DpAll K H vs ds → DpAll K H' vs ds
  | [], _, _, h => by cases h; exact .nil
  | d :: ds, _, n, h => by
    simp only [noLs, Bool.and_eq_true] at n
    cases h with
    | cons h1 h2 => exact .cons (dp_frn c d _ n.1 h1) (dps_frn c ds _ n.2 h2)
end
theorem shaped_by {d : PyData} (h1 : d.canLay0 = true) (h2 : d.depth ≤ 64) : SeqAt.shaped d = true := by
  show (d.canLay0 && decide (d.depth ≤ 64)) = true
  simp [h1, h2]
theorem lay_tos {d : PyData} (h : d.canLay0 = true) : ∀ l : List Int, PyData.canLayAll0 (l.map (toD d)) = true
  | [] => by simp [PyData.canLayAll0]
  | x :: l => by simp [PyData.canLayAll0, PyData.canLay0, toD, h, lay_tos h l]
theorem deep_tos {d : PyData} : ∀ l : List Int, PyData.depthAll (l.map (toD d)) ≤ d.depth + 1
  | [] => by simp [PyData.depthAll]
  | x :: l => by
    have := deep_tos (d := d) l
    simp [PyData.depthAll, PyData.depth, toD]
    omega
theorem shaped_tos {d : PyData} (h : d.canLay0 = true) (h2 : d.depth ≤ 60) (l : List Int) : SeqAt.shaped (.list (l.map (toD d))) = true := by
  refine shaped_by (by simp [PyData.canLay0, lay_tos h l]) ?_
  have := deep_tos (d := d) l
  simp [PyData.depth]
  omega
theorem lay_ask (n : Int) : (askD n).canLay0 = true := by
  simp [askD, PyData.canLay0, PyData.canLayAll0]
  decide +kernel
theorem deep_ask (n : Int) : (askD n).depth ≤ 60 := by simp [askD, PyData.depth, PyData.depthAll]
theorem lay_prs : ∀ S : List (Int × Int), PyData.canLayAll0 (S.map pairD) = true
  | [] => by simp [PyData.canLayAll0]
  | p :: S => by simp [PyData.canLayAll0, PyData.canLay0, pairD, lay_prs S]
theorem deep_prs : ∀ S : List (Int × Int), PyData.depthAll (S.map pairD) ≤ 1
  | [] => by simp [PyData.depthAll]
  | p :: S => by
    have := deep_prs S
    simp [PyData.depthAll, PyData.depth, pairD]
    omega
theorem lay_key (r : Int) (S : List (Int × Int)) (ns : List Int) : (keyD r S ns).canLay0 = true := by
  simp [keyD, PyData.canLay0, PyData.canLayAll0, lay_prs, lay_ints]
  decide +kernel
theorem deep_key (r : Int) (S : List (Int × Int)) (ns : List Int) : (keyD r S ns).depth ≤ 60 := by
  have := deep_prs S
  simp [keyD, PyData.depth, PyData.depthAll, deep_ints]
  omega
theorem shaped_told (r : Int) (S : List (Int × Int)) (ns : List Int) : SeqAt.shaped (toldD r S ns) = true := by
  have := deep_prs S
  refine shaped_by (by simp [toldD, PyData.canLay0, PyData.canLayAll0, lay_prs, lay_ints]) ?_
  simp [toldD, PyData.depth, PyData.depthAll, deep_ints]
  omega
section
variable {P : Program} {w : World} {K : PySem.W.Frag} {mg : Str → Option Value} {base : Heap} {C CK : Addr}
/-! ### asked -/
def askedC (c : Ca) (me : Int) : Ca := { c with st := "asking", f := updI c.f me (c.f me + 1) }
def spAsked (K : PySem.W.Frag) (C CK : Addr) : Sp := fun vs H Q _ => ∃ (L : Addr) (n me number : Int) (cs : List Ca) (c : Ca), vs = [.ref L, .int me, .int number] ∧ WC H C CK L n cs ∧ 2 ≤ n ∧ n ≤ 60 ∧ 0 ≤ me ∧ me < n ∧ cs[me.toNat]? = some c ∧ c.key = none ∧ number = c.f me + 1 ∧
  ∀ H', WC H' C CK L n (cs.set me.toNat (askedC c me)) → FrN (cs.map (·.nu)) H H' → Q (.bl true) H'
theorem sc_law_asked : FnScope ["ones", "me", "number", "due", "to"] ["ones", "me", "number"] (defScope s_law_asked) :=
  ⟨rfl, rfl, rfl, by decide +kernel, rfl, by decide +kernel, by decide +kernel⟩
theorem ok_asked (F : Fn K mg "_law_asked" s_law_asked) (T : BlT72 mg) (S : CalT K C) (MA : Me P w K mg base C "ask" 2 ["self"] (spAskC K C)) (MN : Me P w K mg base C "numbers" 1 ["self"] (spNum C)) : Cal P w K mg base "_law_asked" 3 ["ones", "me", "number"] (spAsked K C CK) := by
  obtain ⟨fA, fdA, GA, bA, mA⟩ := MA
  obtain ⟨fN, fdN, GN, bN, mN⟩ := MN
  refine cal_of F sc_law_asked
    (fun _ _ _ _ _ _ us hl => match us, hl with | [_, _, _], _ => rfl) ?_ ?_
  · rintro vs H Q E ⟨_, _, _, _, _, _, rfl, _⟩
    rfl
  rintro f cdv A outer s H vs Q E free hr ⟨L, n, me, number, cs, c, rfl, W, n2, n60, z0, z1, hc, ck, rfl, q⟩
  have hr1 : Room 1 _ := hr.mono (by decide)
  refine ⟨_, (pss_cons (ps_setLc (i := 3) (own := [("to", 4)]) (g := gName 4)  (by rfl) sc_law_asked.nd rfl rfl (sw_true rfl rfl rfl (by decide +kernel)) (pi_range1 (by rfl) T.range (pa_cons (pe_callB call_len_seq (by rfl) T.len (by decide +kernel) (pa_cons (pv 0) pa_nil)) pa_nil)) (blkOk_by (N := ["ones", "me", "number", "due", "to"]) (sc := defScope s_law_asked) (by decide +kernel)) (fun _ _ _ _ _ => pg_name (i := 4) sc_law_asked.nd rfl (Or.inl rfl)) (fun _ _ _ _ _ => pts_one (pt_cmpR op_ne (pv 4) (pv 1) (nomark _))) (fun _ _ _ _ _ => (pe_tup (pa_cons (pv 4) (pa_cons (pe_tup (pa_cons pe_str (pa_cons (pv 2) pa_nil))) pa_nil)))))
    (pss_one (ps_ret (pe_and (pe_cmpR (op_eqD (u64 hr)) (pe_meth0 (pe_ix ix_list (pv 0) (pv 1) (fun _ _ => rfl)) S.cl mA GA hr bA .nil pass0) (pv 3) (nomark _)) (pe_and (pe_cmpR op_eq (pe_fld (pe_ix ix_list (pv 0) (pv 1) (fun _ _ => rfl)) (by rfl)) pe_str (nomark _)) (pe_one (pe_cmpR op_eq (pe_ix ix_list (pe_meth0 (pe_ix ix_list (pv 0) (pv 1) (fun _ _ => rfl)) S.cl mN GN hr1 bN .nil pass0) (pv 1) (fun _ _ => rfl)) (pv 2) (nomark _)))))))), ?_⟩
  have lL : ((cs.map (·.o)).map V.ref).length = n.toNat := by rw [List.length_map, List.length_map, W.len]
  refine ⟨_, rfl, L, _, rfl, .inl (SqL.of W.at_), ?_⟩
  rw [lL]
  refine ⟨_, rfl, by omega, by omega, fun D hD => ?_⟩
  have en : ((n.toNat : Nat) : Int).toNat = n.toNat := by omega
  refine lc_range (lo := 0) (n := _) (fun i G => Same H G ∧ ∃ zs, zs.length ≤ i ∧ G D = some (.lst zs) ∧ DpAll K G zs ((othR ((rangeI n).take i) me).map (toD (askD (c.f me + 1))))) ⟨same_upd hD, [], Nat.le_refl _, upd_same, .nil⟩ ?_ ?_
  · rintro i G hi ⟨sG, zs, lz, kD, dz⟩
    have hi' : (i : Int) < n := by
      have : i < ((n.toNat : Nat) : Int).toNat := hi
      omega
    have er := rangeI_at hi'
    have nls : noLs ((othR ((rangeI n).take i) me).map (toD (askD (c.f me + 1)))) = true := noLs_of fun d hd => by
      obtain ⟨y, _, rfl⟩ := List.mem_map.mp hd
      exact noL_to (by simp [askD, noL, noLs]) y
    refine ⟨rfl, _, rfl, _, rfl, rfl, _, rfl, ?_⟩
    rw [dec_ii, Int.zero_add]
    have nx : othR ((rangeI n).take (i + 1)) me = othR ((rangeI n).take i) me ++ (if (!decide ((i : Int) = me)) = true then [(i : Int)] else []) := filt_next _ er
    refine ite2 (fun c4 => ?_) (fun c4 => ?_)
    · rw [nx, if_pos c4]
      refine ⟨_, rfl, _, rfl, by show 2 ≤ sizeLine; decide, fun t ht => ?_⟩
      have s3 := same_upd (o := .tup [.str "ask", .int (c.f me + 1)]) ht
      refine ⟨by show 2 ≤ sizeLine; decide, fun t2 ht2 => ?_⟩
      have s4 := same_upd (o := .tup [.int (i : Int), .ref t]) ht2
      have kD4 := s4 _ _ (s3 _ _ kD)
      refine ⟨_, kD4, Nat.lt_of_lt_of_le (show zs.length < 100 by omega) (by decide), fun a o e => ?_, zs ++ [.ref t2], by rw [List.length_append, List.length_singleton]; omega, upd_same, ?_⟩
      · rw [upd_ne (ne_of_none e hD)]
        exact s4 _ _ (s3 _ _ (sG _ _ e))
      · rw [List.map_append]
        refine dps_app (dps_chg ⟨_, kD4⟩ Chg.self _ _ nls (dps_same (s3.trans s4) _ _ dz)) (dps_chg ⟨_, kD4⟩ Chg.self _ _ (by simp [toD, askD, noL, noLs]) (.cons (.tup (SqT.of upd_same) (.cons (.int _) (.cons (.tup (SqT.of (s4 _ _ upd_same)) (.cons (.str _) (.cons (.int _) .nil))) .nil))) .nil))
    · rw [nx, if_neg c4, List.append_nil]
      exact ⟨sG, zs, by omega, kD, dz⟩
  rintro G ⟨sG, zs, lz, kD, dz⟩
  rw [List.take_of_length_le (by rw [rangeI_len]; first | exact Nat.le_refl _ | omega)] at dz
  have W1 := W.same sG
  have CA := W1.all _ c hc
  rw [show ((me.toNat : Nat) : Int) = me by omega] at CA
  have atc : atI ((cs.map (·.o)).map V.ref) me = some (.ref c.o) := by
    obtain ⟨c2, e2, _, e3⟩ := W1.caller z0 z1
    rw [hc] at e2
    cases e2
    exact e3
  have mc := List.mem_of_getElem? hc
  have A0 := CA.at_
  rw [ck] at A0
  have lms : ((msF n c.f).length : Int) = n := by rw [msF_len]; omega
  refine ⟨_, rfl, _, rfl, L, _, _, _, rfl, rfl, SqL.of W1.at_, atc, c.o, c.dx, _, rfl, A0.hp, (A0.no "ask").2, c.o, c.dx, c.ro, c.nu, c.pl, me, 0, c.st, .non, .non, rangeI n, msF n c.f, [], rfl, A0, z0, by omega, by rw [msF_len]; omega, (W1.nr c mc c mc).symm, by rw [rangeI_len]; omega, .inr ⟨rfl, fun z zs2 H2 ch A2 kz dz2 => ?_⟩⟩
  have chf : ChgS (foot c) G H2 := ch.mono fun a ha => by
    simp only [List.mem_cons, List.not_mem_nil, or_false] at ha
    rcases ha with rfl | rfl <;> simp [foot]
  have CA2 : CaAt H2 C CK n me (askedC c me) := ⟨by show CalAt H2 C c.o c.dx me "asking" 0 c.ro c.nu (keyV c.key) .non c.pl (rangeI n) (msF n (updI c.f me (c.f me + 1))) []; rw [ck, ← inc_F z0 z1]; exact A2, fun y ey => by have ey : c.key = some y := ey; rw [ck] at ey; cases ey⟩
  have W2 : WC H2 C CK L n (cs.set me.toNat (askedC c me)) := W1.set (by omega) hc chf (by rw [show ((me.toNat : Nat) : Int) = me by omega]; exact CA2) rfl rfl rfl (fun y ey => by have ey : c.key = some y := ey; rw [ck] at ey; cases ey) (fun nk => absurd ck nk)
  have f2 := (Same.frn sG).trans (W1.frn hc chf)
  have Dn : D ∉ cs.map (·.nu) := fun m => by
    obtain ⟨c3, m3, e3⟩ := List.mem_map.mp m
    obtain ⟨j, hj⟩ := List.mem_iff_getElem?.mp m3
    have := (W.all j c3 hj).at_.hn
    rw [e3, hD] at this
    cases this
  have kD2 := lst_frn (W1.frn hc chf) kD Dn
  have nls : noLs ((othR (rangeI n) me).map (toD (askD (c.f me + 1)))) = true := noLs_of fun d hd => by
    obtain ⟨y, _, rfl⟩ := List.mem_map.mp hd
    exact noL_to (by simp [askD, noL, noLs]) y
  have dz3 := dps_frn (W1.frn hc chf) _ _ nls dz
  rw [msF_get z0 z1] at dz2
  have shp := shaped_tos (lay_ask (c.f me + 1)) (deep_ask _) (othR (rangeI n) me)
  refine ⟨_, rfl, _, _, .lst (SqL.of kz) dz2, .lst (SqL.of kD2) dz3, shp, shp, ?_⟩
  rw [eqv_shaped shp]
  refine ⟨_, rfl, iteT ?_⟩
  have hc2 : (cs.set me.toNat (askedC c me))[me.toNat]? = some (askedC c me) := by rw [List.getElem?_set_self (List.getElem?_eq_some_iff.mp hc).1]
  have atc2 : atI (((cs.set me.toNat (askedC c me)).map (·.o)).map V.ref) me = some (.ref c.o) := by
    obtain ⟨c3, e3, _, e4⟩ := W2.caller z0 z1
    rw [hc2] at e3
    cases e3
    exact e4
  refine ⟨_, rfl, _, rfl, L, _, _, _, rfl, rfl, SqL.of W2.at_, atc2, c.o, C, c.dx, _, _, rfl, A2.hp, S.cl, S.state, caF_stt _ _ _ _ _ _ _ _ _, rfl, ?_⟩
  refine ⟨_, rfl, ?_⟩
  rw [dec_str]
  refine iteT' (by decide +kernel) ?_
  refine ⟨_, rfl, _, rfl, L, _, _, _, rfl, rfl, SqL.of W2.at_, atc2, c.o, c.dx, _, rfl, A2.hp, (A2.no "numbers").2, c.o, c.dx, me, "asking", 0, c.ro, c.nu, .non, .non, c.pl, rangeI n, _, [], rfl, A2, fun l3 h3 => ?_⟩
  have s3 := same_upd (o := .lst ((inc (msF n c.f) me).map V.int)) h3
  refine ⟨_, rfl, l3, _, _, .int (c.f me + 1), rfl, rfl, SqL.of upd_same, ?_, _, rfl, rfl, ?_⟩
  · rw [at_ms z0 (by unfold inc; rw [List.length_set]; omega), inc_F z0 z1, msF_get z0 z1]
    unfold updI
    rw [if_pos rfl]
  · rw [dec_ii, decide_eq_true rfl]
    exact q _ (W2.same s3) (f2.trans (Same.frn s3))
end

end G0
namespace G0
open PySem PySem.Spec PyProof.Rows L2 NdefX ClX
/-! ### what is heard one after another -/
def hF (l : List (Int × Int)) (f : Int → Int) : Int → Int := l.foldl (fun f p => updI f p.1 p.2) f
theorem hF_snoc (l : List (Int × Int)) (p : Int × Int) (f : Int → Int) : hF (l ++ [p]) f = updI (hF l f) p.1 p.2 := by
  unfold hF
  rw [List.foldl_append]
  rfl
theorem hF_not {m : Int} : ∀ {l : List (Int × Int)} {f : Int → Int}, m ∉ l.map (·.1) → hF l f m = f m
  | [], _, _ => rfl
  | p :: l, f, h => by
    rw [List.map_cons, List.mem_cons, not_or] at h
    show hF l (updI f p.1 p.2) m = f m
    rw [hF_not h.2]
    unfold updI
    rw [if_neg h.1]
theorem hF_mem {m v : Int} : ∀ {l : List (Int × Int)} {f : Int → Int}, (l.map (·.1)).Nodup → (m, v) ∈ l → hF l f m = v
  | [], _, _, h => absurd h List.not_mem_nil
  | p :: l, f, nd, h => by
    rw [List.map_cons, List.nodup_cons] at nd
    show hF l (updI f p.1 p.2) m = v
    rcases List.mem_cons.mp h with e | h
    · subst e
      rw [hF_not nd.1]
      unfold updI
      rw [if_pos rfl]
    · exact hF_mem nd.2 h
theorem set_same {α : Type} {l : List α} {i : Nat} {c : α} (h : l[i]? = some c) : l.set i c = l := by
  refine List.ext_getElem? fun j => ?_
  rw [List.getElem?_set]
  by_cases e : i = j
  · subst e
    rw [if_pos rfl, if_pos (List.getElem?_eq_some_iff.mp h).1, h]
  · rw [if_neg e]
theorem nus_set {cs : List Ca} {i : Nat} {c c' : Ca} (h : cs[i]? = some c) (e : c'.nu = c.nu) : (cs.set i c').map (·.nu) = cs.map (·.nu) := by
  rw [List.map_set, e]
  exact set_same (by rw [List.getElem?_map, h]; rfl)
def hearC (c : Ca) (l : List (Int × Int)) : Ca := { c with f := hF l c.f }
section
variable {P : Program} {w : World} {K : PySem.W.Frag} {mg : Str → Option Value} {base : Heap} {C CK : Addr}
def spQuiet (K : PySem.W.Frag) (C CK : Addr) : Sp := fun vs H Q _ => ∃ (L hd : Addr) (n : Int) (i : Nat) (cs : List Ca) (c : Ca) (hs : List V) (prs : List (Int × Int)) (o : Addr), vs = [.ref o, .ref hd, .str c.st] ∧ o = c.o ∧ WC H C CK L n cs ∧ 2 ≤ n ∧ n ≤ 60 ∧ cs[i]? = some c ∧ (c.key = none ∨ c.st = "in") ∧
  H hd = some (.lst hs) ∧ DpAll K H hs (prs.map pairD) ∧ hd ∉ cs.map (·.nu) ∧ (∀ p ∈ prs, (0 ≤ p.1 ∧ p.1 < n) ∧ c.f p.1 ≤ p.2) ∧ (prs.map (·.1)).Nodup ∧ prs.length ≤ 200 ∧
  ∀ H', WC H' C CK L n (cs.set i (hearC c prs)) → FrN (cs.map (·.nu)) H H' → Q (.bl true) H'
theorem sc_law_quiet : FnScope ["one", "heard", "state", "seat", "number"] ["one", "heard", "state"] (defScope s_law_quiet) :=
  ⟨rfl, rfl, rfl, by decide +kernel, rfl, by decide +kernel, by decide +kernel⟩
theorem ok_quiet (F : Fn K mg "_law_quiet" s_law_quiet) (S : CalT K C) (MH : Me P w K mg base C "hear" 5 ["self", "sender", "letter"] (spHearC K C CK)) (MN : Me P w K mg base C "numbers" 1 ["self"] (spNum C)) : Cal P w K mg base "_law_quiet" 6 ["one", "heard", "state"] (spQuiet K C CK) := by
  obtain ⟨fH, fdH, GH, bH, mH⟩ := MH
  obtain ⟨fN, fdN, GN, bN, mN⟩ := MN
  refine cal_of F sc_law_quiet
    (fun _ _ _ _ _ _ us hl => match us, hl with | [_, _, _], _ => rfl) ?_ ?_
  · rintro vs H Q E ⟨_, _, _, _, _, _, _, _, _, rfl, _⟩
    rfl
  rintro f cdv A outer s H vs Q E free hr ⟨L, hd, n, i, cs, c, hs, prs, o, rfl, rfl, W, n2, n60, hc, qt, khd, dhs, nhd, bp, ndp, lp, q⟩
  have hr1 : Room 1 _ := hr.mono (by decide)
  refine ⟨_, (pss_cons (ps_for PassesOwn.never rfl (pi_list (pv 1)) (pg_tup (by rfl) (pgs_cons (pg_name (i := 3) sc_law_quiet.nd rfl (Or.inl rfl)) (pgs_cons (pg_name (i := 4) sc_law_quiet.nd rfl (Or.inl rfl)) pgs_nil)))
    (pss_one (ps_if (PW.pt (pw_or (pt_cmpR (op_neD (u64 hr)) (pe_meth (pv 0) S.cl mH GH hr bH .nil pass0 (pa_cons (pv 3) (pa_cons (pe_tup (pa_cons pe_str (pa_cons (pv 4) pa_nil))) pa_nil))) (pe_lst pa_nil) (nomark _)) (pw_or1 (pt_cmpR op_ne (pe_ix ix_list (pe_meth0 (pv 0) S.cl mN GN hr1 bN .nil pass0) (pv 3) (fun _ _ => rfl)) (pv 4) (nomark _)))))
    (pss_one (ps_ret pe_bl))
    pss_nil)))
    (pss_one (ps_ret (pe_cmpR op_eq (pe_fld (pv 0) (by rfl)) (pv 2) (nomark _))))), ?_⟩
  have il := (List.getElem?_eq_some_iff.mp hc).1
  have lhs : hs.length = prs.length := by rw [dps_len dhs, List.length_map]
  refine ⟨_, rfl, hd, rfl, ⟨_, SqL.of khd⟩, ?_⟩
  refine for_list (K := K) (a := hd) (xs := hs) (fun j σ G => (∃ z3 z4 : Option V, σ = [some (V.ref c.o), some (V.ref hd), some (V.str c.st), z3, z4]) ∧ WC G C CK L n (cs.set i (hearC c (prs.take j))) ∧ FrN (cs.map (·.nu)) H G) ⟨⟨_, _, rfl⟩, ?_, Same.frn (Same.refl H)⟩ (fun j σ G _ h => SqL.of (lst_frn h.2.2 khd nhd)) ?_ ?_
  · have : hearC c (prs.take 0) = c := rfl
    rw [this, set_same hc]
    exact W
  · rintro j x σ G hx ⟨⟨z3, z4, rfl⟩, WG, fG⟩
    have dG := dps_frn fG _ _ (noLs_pairs prs) dhs
    obtain ⟨p, hp, dp⟩ := dps_at' dG hx
    obtain ⟨t, v1, v2, rfl, qt1, d1, d2⟩ := two_dp dp
    cases d1
    cases d2
    obtain ⟨⟨b0, b1⟩, b2⟩ := bp p (List.mem_of_getElem? hp)
    obtain ⟨c1, ec1⟩ : ∃ c1, c1 = hearC c (prs.take j) := ⟨_, rfl⟩
    rw [← ec1] at WG
    have hc1 : (cs.set i c1)[i]? = some c1 := List.getElem?_set_self il
    have CA := WG.all i c1 hc1
    have A0 := CA.at_
    have eo : c1.o = c.o := by rw [ec1]; rfl
    have est : c1.st = c.st := by rw [ec1]; rfl
    have eky : c1.key = c.key := by rw [ec1]; rfl
    have mc := List.mem_of_getElem? hc1
    have pj := (List.getElem?_eq_some_iff.mp hp).1
    have fp : c1.f p.1 = c.f p.1 := by
      rw [ec1]
      refine hF_not fun m => ?_
      obtain ⟨j2, lj2, ej2⟩ := List.mem_iff_getElem.mp m
      rw [List.length_map, List.length_take] at lj2
      rw [List.getElem_map, List.getElem_take] at ej2
      have h1 : (prs.map (·.1))[j2]? = some p.1 := by rw [List.getElem?_map, List.getElem?_eq_getElem (by omega), ← ej2]; rfl
      have h2 : (prs.map (·.1))[j]? = some p.1 := by rw [List.getElem?_map, hp]; rfl
      have := (List.getElem?_inj (by rw [List.length_map]; omega) ndp).mp (h1.trans h2.symm)
      omega
    rw [← eo]
    refine ⟨t, _, rfl, qt1, rfl, _, _, rfl, _, _, rfl, rfl, ?_⟩
    refine ⟨_, rfl, c1.o, c1.dx, _, rfl, A0.hp, (A0.no "hear").2, _, rfl, _, rfl, by show 2 ≤ sizeLine; decide, fun lt hlt => ?_⟩
    have s1 := same_upd (o := .tup [.str "ask", .int p.2]) hlt
    have A1 := A0.same s1
    have W1 := WG.same s1
    have lms : ((msF n c1.f).length : Int) = n := by rw [msF_len]; omega
    refine ⟨c1.o, c1.dx, lt, p.1, _, rfl, A1.hp, (A1.no "_hear_ask").2, (A1.no "_hear_key").2, .inl ⟨p.2, SqT.of upd_same, c1.o, c1.dx, c1.ro, c1.nu, c1.pl, (i : Int), 0, p.1, p.2, c1.st, keyV c1.key, .non, rangeI n, msF n c1.f, [], rfl, A1, b0, by omega, (W1.nr c1 mc c1 mc).symm, .inl ⟨?_, fun z G2 ch A2 kz => ?_⟩⟩⟩
    · cases ek : c1.key with
      | none => exact .inl rfl
      | some y =>
        refine .inr ⟨?_, y.k, rfl⟩
        rcases qt with e | e
        · rw [eky, e] at ek; cases ek
        · rw [est]; exact e
    have hn : hearC c (prs.take (j + 1)) = { c1 with f := updI c1.f p.1 p.2 } := by
      rw [ec1]
      unfold hearC
      rw [List.take_succ, hp, Option.toList_some, hF_snoc]
    have chf : ChgS (foot c1) (upd G lt (.tup [.str "ask", .int p.2])) G2 := ch.mono fun a ha => by rw [List.mem_singleton.mp ha]; simp [foot]
    rw [learn_F b0 b1, show (if p.2 > c1.f p.1 then p.2 else c1.f p.1) = p.2 by rw [fp]; split <;> omega] at A2
    have CA2 : CaAt G2 C CK n (i : Int) { c1 with f := updI c1.f p.1 p.2 } := ⟨A2, fun y ey => by
      have KA := (CA.key y ey).same s1
      have h1 : y.k ≠ c1.nu := ne_of KA.hp A1.hn (by intro z; cases z)
      have h2 : y.d ≠ c1.nu := ne_of KA.hd A1.hn (by intro z; cases z)
      have h3 : y.l ≠ c1.nu := (WG.kl c1 mc y ey c1 mc).1
      exact { KA with hp := ch _ _ (by simpa using h1) KA.hp, hd := ch _ _ (by simpa using h2) KA.hd, hl := ch _ _ (by simpa using h3) KA.hl }⟩
    have W2 := W1.set (by omega) hc1 chf CA2 rfl rfl rfl (fun y ey c2 m2 => W1.kl c1 mc y ey c2 m2) (fun nk j2 c2 h2 ne => by
      cases e2 : c2.key with
      | none => rfl
      | some y2 => exact absurd (W1.one j2 i c2 c1 h2 hc1 (by rw [e2]; exact fun z => nomatch z) nk) ne)
    rw [List.set_set, ← hn] at W2
    have f2 : FrN (cs.map (·.nu)) H G2 := by
      have := W1.frn hc1 chf
      rw [nus_set hc (show c1.nu = c.nu by rw [ec1]; rfl)] at this
      exact (fG.trans (Same.frn s1)).trans this
    refine ⟨Nat.zero_le _, fun e he => ?_⟩
    have s3 := same_upd (o := .lst []) he
    refine ⟨.list [], .list [], .lst (SqL.of (s3 _ _ kz)) .nil, .lst (SqL.of upd_same) .nil, by decide, by decide, _, rfl, iteF' (by decide +kernel) ?_⟩
    have A3 := A2.same s3
    refine ⟨_, rfl, c1.o, c1.dx, _, rfl, A3.hp, (A3.no "numbers").2, c1.o, c1.dx, _, _, _, _, _, _, _, _, _, _, _, rfl, A3, fun l3 h3 => ?_⟩
    have s4 := same_upd (o := .lst ((msF n (updI c1.f p.1 p.2)).map V.int)) h3
    refine ⟨_, rfl, l3, _, _, .int p.2, rfl, rfl, SqL.of upd_same, ?_, _, rfl, rfl, _, rfl, iteF' (by rw [dec_ii]; simp) ?_⟩
    · rw [at_ms b0 (by rw [msF_len]; omega), msF_get b0 b1]
      unfold updI
      rw [if_pos rfl]
    · rw [eo]
      exact ⟨⟨_, _, rfl⟩, (W2.same s3).same s4, f2.trans (Same.frn (s3.trans s4))⟩
  · rintro σ G ⟨⟨z3, z4, rfl⟩, WG, fG⟩
    rw [List.take_of_length_le (by omega)] at WG
    have hc1 : (cs.set i (hearC c prs))[i]? = some (hearC c prs) := List.getElem?_set_self il
    have A0 := (WG.all i _ hc1).at_
    refine ⟨_, rfl, c.o, C, c.dx, _, _, rfl, A0.hp, S.cl, S.state, caF_stt _ _ _ _ _ _ _ _ _, _, rfl, rfl, ?_⟩
    rw [dec_str, show decide ((hearC c prs).st = c.st) = true from decide_eq_true rfl]
    exact q G WG fG
end

end G0
namespace G0
open PySem PySem.Spec PyProof.Rows L2 NdefX ClX
theorem foot_key {c : Ca} {y : Ky} (h : c.key = some y) : ∀ a ∈ [c.o, y.k, y.d], a ∈ foot c := fun a ha => by
  unfold foot
  rw [h]
  simp only [List.mem_cons, List.not_mem_nil, or_false] at ha
  rcases ha with rfl | rfl | rfl <;> simp
theorem foot_key4 {c : Ca} {y : Ky} (h : c.key = some y) : ∀ a ∈ [c.o, y.k, c.nu], a ∈ foot c := fun a ha => by
  unfold foot
  rw [h]
  simp only [List.mem_cons, List.not_mem_nil, or_false] at ha
  rcases ha with rfl | rfl | rfl <;> simp
theorem one_of {x : Int} {l : List Int} (nd : l.Nodup) (h : ∀ m, m ∈ l ↔ m = x) : l = [x] := by
  have p : l.Perm [x] := (List.perm_ext_iff_of_nodup nd (by simp)).mpr fun m => by rw [h]; simp
  exact List.perm_singleton.mp p
theorem rndF_nd {n b : Int} {p : Int → Bool} (h0 : 0 ≤ b) (h1 : b < n) : (rndF n b p).Nodup := by
  unfold rndF
  rw [← ordR_range h0 h1]
  exact (ordR_nd (rangeI_nd n)).filter _
theorem rndF_congr {n b : Int} {p p' : Int → Bool} (h0 : 0 ≤ b) (h1 : b < n) (h : ∀ m, 0 ≤ m → m < n → p m = p' m) : rndF n b p = rndF n b p' := by
  unfold rndF
  refine List.filter_congr fun m hm => ?_
  have : 0 ≤ m ∧ m < n := by
    rcases List.mem_append.mp hm with z | z <;> have := rgI_mem.mp z <;> omega
  exact h m this.1 this.2
theorem eqv_nilI (S : List Int) : PyData.eqv (.list (S.map PyData.int)) (.list []) = decide (S = []) := by
  cases S with
  | nil => simp [PyData.eqv, PyData.eqvAll]
  | cons a S => simp [PyData.eqv, PyData.eqvAll]
theorem eq_bl {b : Bool} (h : b = true) : (!b) = false := by rw [h]; rfl
section
variable {P : Program} {w : World} {K : PySem.W.Frag} {mg : Str → Option Value} {base : Heap} {C CK : Addr}
theorem WC.notN {H : Hp} {L : Addr} {n : Int} {cs : List Ca} (W : WC H C CK L n cs) {a : Addr} (h : H a = none) : a ∉ cs.map (·.nu) := fun m => by
  obtain ⟨c3, m3, e3⟩ := List.mem_map.mp m
  obtain ⟨j, hj⟩ := List.mem_iff_getElem?.mp m3
  have := (W.all j c3 hj).at_.hn
  rw [e3, h] at this
  cases this
def g1F (b : Int) : Int → Int := updI (fun _ => 0) b 1
theorem dp_tupI {H : Hp} {t : Addr} {ns : List Int} (h : SqT K H t (ns.map V.int)) : Dp K H (.ref t) (.tuple (ns.map PyData.int)) := .tup h (dps_ints ns)
theorem cut1v (x : V) (r : List V) : cutV (x :: r) (some 1) none = r := by
  unfold cutV HT.sIx
  simp
theorem cut1 {x : Int} {xs : List Int} : cutV ((x :: xs).map V.int) (some 1) none = xs.map V.int := cut1v _ _
theorem cut01 {x : Int} {xs : List Int} : cutV ((x :: xs).map V.int) none (some 1) = [x].map V.int := by
  show cutV (V.int x :: xs.map V.int) none (some 1) = _
  unfold cutV HT.sIx
  simp
/-! ### the first one leaves -/
def spFirst (K : PySem.W.Frag) (C CK : Addr) : Sp := fun vs H Q _ => ∃ (L ea la : Addr) (n b : Int) (cs : List Ca) (c : Ca) (y : Ky) (E0 T : List Int), vs = [.ref L, .int b, .ref ea, .ref la] ∧ WC H C CK L n cs ∧ 2 ≤ n ∧ n ≤ 60 ∧ 0 ≤ b ∧ b < n ∧ cs[b.toNat]? = some c ∧ c.key = some y ∧ y.g = (fun _ => 0) ∧ y.ns = [] ∧
  c.f b = 1 ∧ (∀ m, 0 ≤ m → m < n → m ≠ b → c.f m = if m ∈ E0 then 1 else 0) ∧ b ∉ E0 ∧ (∀ t ∈ T, 0 ≤ t ∧ t < n ∧ t ≠ b ∧ t ∉ E0) ∧ H ea = some (.lst (E0.map V.int)) ∧ H la = some (.lst (T.map V.int)) ∧ ea ∉ cs.map (·.nu) ∧ la ∉ cs.map (·.nu) ∧
  (rndF n b (fun m => decide (m ∈ E0)) ≠ [] → ∀ l H', WC H' C CK L n (cs.set b.toNat { c with st := "out", key := none }) → FrN (cs.map (·.nu)) H H' → l ∉ cs.map (·.nu) → H' l = some (.lst ((rndF n b fun m => decide (m ∈ E0)).map V.int)) → Q (.ref l) H') ∧
  (rndF n b (fun m => decide (m ∈ E0)) = [] → T = [] → ∀ l y' H', y'.g = g1F b → y'.ns = [] → WC H' C CK L n (cs.set b.toNat { c with st := "out", key := some y' }) → FrN (cs.map (·.nu)) H H' → l ∉ cs.map (·.nu) → H' l = some (.lst []) → Q (.ref l) H') ∧
  (∀ t T', rndF n b (fun m => decide (m ∈ E0)) = [] → T = t :: T' → ∀ l H', WC H' C CK L n (cs.set b.toNat { c with st := "out", key := none, f := updI c.f t 1 }) → FrN (cs.map (·.nu)) H H' → l ∉ cs.map (·.nu) → H' l = some (.lst ([t].map V.int)) → Q (.ref l) H')
theorem sc_law_first_leaves : FnScope ["ones", "begins", "early", "late", "served", "ahead", "pairs"] ["ones", "begins", "early", "late"] (defScope s_law_first_leaves) :=
  ⟨rfl, rfl, rfl, by decide +kernel, rfl, by decide +kernel, by decide +kernel⟩
theorem ok_first (F : Fn K mg "_law_first_leaves" s_law_first_leaves) (T0 : BlT72 mg) (S : CalT K C) (C_round_from : Cal P w K mg base "_law_round_from" 1 ["seats", "me", "some"] (spRound K)) (C_pairs : Cal P w K mg base "_law_pairs" 1 ["served"] (spPairs K))
    (ML : Me P w K mg base C "leave" 4 ["self"] (spLeaveC K C CK)) (MB : Me P w K mg base C "bears" 2 ["self"] (spBears K C CK)) (MH : Me P w K mg base C "hear" 5 ["self", "sender", "letter"] (spHearC K C CK)) : Cal P w K mg base "_law_first_leaves" 6 ["ones", "begins", "early", "late"] (spFirst K C CK) := by
  obtain ⟨fL, fdL, GL, bL, mL⟩ := ML
  obtain ⟨fB, fdB, GB, bB, mB⟩ := MB
  obtain ⟨fH, fdH, GH, bH, mH⟩ := MH
  have T := T0
  refine cal_of F sc_law_first_leaves
    (fun _ _ _ _ _ _ us hl => match us, hl with | [_, _, _, _], _ => rfl) ?_ ?_
  · rintro vs H Q E ⟨_, _, _, _, _, _, _, _, _, _, rfl, _⟩
    rfl
  rintro f cdv A outer s H vs Q E free hr ⟨L, ea, la, n, b, cs, c, y, E0, TT, rfl, W, n2, n60, b0, b1, hc, ck, yg, yn, fb, fo, bE, tT, kea, kla, nea, nla, q1, q2, q3⟩
  have hr4 : Room 4 _ := hr.mono (by decide)
  have hr2 : Room 2 _ := hr.mono (by decide)
  refine ⟨_, (pss_cons (ps_set (i := 4) sc_law_first_leaves.nd rfl (Or.inl rfl) (pe_op op_rep (pe_lst (pa_cons pe_int pa_nil)) (pe_callB call_len_seq (by rfl) T.len (by decide +kernel) (pa_cons (pv 0) pa_nil))))
    (pss_cons (ps_asg pe_int (pg_sub (pv 4) (pv 1) set_list))
    (pss_cons (ps_set (i := 5) sc_law_first_leaves.nd rfl (Or.inl rfl) (pe_cal C_round_from free (hr.mono (by decide)) (pa_cons (pe_callB call_len_seq (by rfl) T.len (by decide +kernel) (pa_cons (pv 0) pa_nil)) (pa_cons (pv 1) (pa_cons (pv 2) pa_nil)))))
    (pss_cons (ps_set (i := 6) sc_law_first_leaves.nd rfl (Or.inl rfl) (pe_cal C_pairs free (hr.mono (by decide)) (pa_cons (pv 4) pa_nil)))
    (pss_cons (ps_if (pt_cmpR (op_neD (u64 hr)) (pv 5) (pe_lst pa_nil) (nomark _))
    (pss_one (ps_if (pt_cmpR (op_neD (u64 hr)) (pe_meth0 (pe_ix ix_list (pv 0) (pv 1) (fun _ _ => rfl)) S.cl mL GL hr4 bL .nil pass0) (pe_lst (pa_cons (pe_tup (pa_cons (pe_ix ix_list (pv 5) pe_int (fun _ _ => rfl)) (pa_cons (pe_tup (pa_cons pe_str (pa_cons pe_int (pa_cons (pv 6) (pa_cons (pe_callTy call_tuple_of (by rfl) T.tuple (by decide +kernel) (pa_cons (pe_slice sl_list (pv 5) (po_some pe_int) po_none) pa_nil)) pa_nil))))) pa_nil))) pa_nil)) (nomark _))
    (pss_one (ps_ret pe_non))
    pss_nil))
    (pss_cons (ps_if (PW.pt (pw_or (pt_cmpR (op_neD (u64 hr)) (pe_meth0 (pe_ix ix_list (pv 0) (pv 1) (fun _ _ => rfl)) S.cl mL GL hr4 bL .nil pass0) (pe_lst pa_nil) (nomark _)) (pw_or (pt_cmpR (op_neD (u64 hr)) (pe_meth0 (pe_ix ix_list (pv 0) (pv 1) (fun _ _ => rfl)) S.cl mB GB hr2 bB .nil pass0) (pe_tup (pa_cons pe_int (pa_cons (pv 6) (pa_cons (pe_tup pa_nil) pa_nil)))) (nomark _)) (pw_or1 (pt_cmpR op_ne (pe_fld (pe_ix ix_list (pv 0) (pv 1) (fun _ _ => rfl)) (by rfl)) pe_str (nomark _))))))
    (pss_one (ps_ret pe_non))
    pss_nil)
    (pss_cons (ps_if (pt_cmpR (op_eqD (u64 hr)) (pv 3) (pe_lst pa_nil) (nomark _))
    (pss_one (ps_ret (pe_lst pa_nil)))
    pss_nil)
    (pss_cons (ps_set (i := 5) sc_law_first_leaves.nd rfl (Or.inl rfl) (pe_slice sl_list (pv 3) po_none (po_some pe_int)))
    (pss_one (ps_if (pt_cmpR (op_neD (u64 hr)) (pe_meth (pe_ix ix_list (pv 0) (pv 1) (fun _ _ => rfl)) S.cl mH GH hr bH .nil pass0 (pa_cons (pe_ix ix_list (pv 3) pe_int (fun _ _ => rfl)) (pa_cons (pe_tup (pa_cons pe_str (pa_cons pe_int pa_nil))) pa_nil))) (pe_lst (pa_cons (pe_tup (pa_cons (pe_ix ix_list (pv 3) pe_int (fun _ _ => rfl)) (pa_cons (pe_tup (pa_cons pe_str (pa_cons pe_int (pa_cons (pv 6) (pa_cons (pe_tup pa_nil) pa_nil))))) pa_nil))) pa_nil)) (nomark _))
    (pss_one (ps_ret pe_non))
    pss_nil))))))
    (pss_cons (ps_if (PW.pt (pw_or (pt_cmpR op_notN (pe_meth0 (pe_ix ix_list (pv 0) (pv 1) (fun _ _ => rfl)) S.cl mB GB hr2 bB .nil pass0) pe_non (nomark _)) (pw_or1 (pt_cmpR op_ne (pe_fld (pe_ix ix_list (pv 0) (pv 1) (fun _ _ => rfl)) (by rfl)) pe_str (nomark _)))))
    (pss_one (ps_ret pe_non))
    pss_nil)
    (pss_one (ps_ret (pv 5))))))))), ?_⟩
  have lL : ((cs.map (·.o)).map V.ref).length = n.toNat := by rw [List.length_map, List.length_map, W.len]
  refine ⟨by show 1 ≤ sizeLine; decide, fun z hz => ?_⟩
  have s1 := same_upd (o := .lst [.int 0]) hz
  refine ⟨_, rfl, L, _, rfl, .inl (SqL.of (s1 _ _ W.at_)), z, _, _, rfl, rfl, upd_same, by rw [lL]; omega, by rw [lL]; omega, ?_, fun sv hsv => ?_⟩
  · rw [lL]
    show _ ≤ sizeLine
    refine Nat.le_trans (show _ ≤ 100 from ?_) (by decide)
    simp
    omega
  have e0 : (List.replicate (Int.toNat ((((cs.map (·.o)).map V.ref).length : Nat) : Int)) [V.int 0]).flatten = (msF n fun _ => 0).map V.int := by
    rw [lL, flat_zero, ← zeros_F]
    rfl
  rw [e0] at *
  have s2 := s1.trans (same_upd (o := .lst ((msF n fun _ => 0).map V.int)) hsv)
  have eN : ((((cs.map (·.o)).map V.ref).length : Nat) : Int) = n := by rw [lL]; omega
  refine ⟨_, rfl, _, rfl, sv, _, _, b.toNat, rfl, rfl, upd_same, ?_, ?_⟩
  · rw [List.length_map, msF_len, show b = ((b.toNat : Nat) : Int) by omega]
    exact ix_n (by omega)
  rw [← List.map_set, msF_set b0, upd_upd]
  have s3 : Same H (upd (upd H z (.lst [.int 0])) sv (.lst ((msF n (g1F b)).map V.int))) := s1.trans (same_upd hsv)
  obtain ⟨G3, e3⟩ : ∃ G3, G3 = upd (upd H z (.lst [.int 0])) sv (.lst ((msF n (g1F b)).map V.int)) := ⟨_, rfl⟩
  have ksv : G3 sv = some (.lst ((msF n (g1F b)).map V.int)) := by rw [e3]; exact upd_same
  rw [show updI (fun _ => 0) b 1 = g1F b from rfl, ← e3]
  rw [← e3] at s3
  clear e3 e0
  refine ⟨_, rfl, L, _, rfl, .inl (SqL.of (s3 _ _ W.at_)), ?_⟩
  rw [eN]
  refine ⟨_, rfl, _, rfl, n, b, ea, E0, rfl, s3 _ _ kea, b0, b1, n60, fun ah H4 s4 hah kah => ?_⟩
  obtain ⟨A1, eA1⟩ : ∃ A1, A1 = rndF n b fun m => decide (m ∈ E0) := ⟨_, rfl⟩
  rw [← eA1] at kah q1 q2 q3
  refine ⟨_, rfl, sv, n, g1F b, rfl, s4 _ _ ksv, by omega, n60, fun pt H5 s5 dpt => ?_⟩
  have s35 := (s3.trans s4).trans s5
  have kah5 := s5 _ _ kah
  have nah : ah ∉ cs.map (·.nu) := (W.same s3).notN hah
  refine ⟨_, rfl, Nat.zero_le _, fun e he => ?_⟩
  have se := same_upd (o := .lst []) he
  refine ⟨.list (A1.map PyData.int), .list [], dp_ints (se _ _ kah5), .lst (SqL.of upd_same) .nil, shaped_ints _, by decide, _, rfl, ?_⟩
  rw [eqv_nilI]
  have s6 := s35.trans se
  obtain ⟨H6, e6⟩ : ∃ H6, H6 = upd H5 e (.lst []) := ⟨_, rfl⟩
  rw [← e6] at s6 se
  rw [← e6]
  have kah6 := se _ _ kah5
  have dpt6 := dp_same se _ _ dpt
  have W6 := W.same s6
  have CA := W6.all _ c hc
  rw [show ((b.toNat : Nat) : Int) = b by omega] at CA
  have atc : atI ((cs.map (·.o)).map V.ref) b = some (.ref c.o) := by
    obtain ⟨c2, e2, _, e3⟩ := W6.caller b0 b1
    rw [hc] at e2
    cases e2
    exact e3
  have mc := List.mem_of_getElem? hc
  have A0 := CA.at_
  rw [ck] at A0
  have KA := CA.key y ck
  have lms : ((msF n c.f).length : Int) = n := by rw [msF_len]; omega
  have dpl : y.d ≠ c.pl := fun e => by
    have h1 := KA.hd
    rw [e, A0.hpl] at h1
    have h2 := Option.some.inj h1
    injection h2 with h3
    have h4 := congrArg List.length h3
    rw [List.length_map, sF_len, List.length_nil] at h4
    omega
  have mb : b ∈ (sF n y.g).map (·.1) := by rw [sF_fst]; exact rangeI_mem.mpr ⟨b0, b1⟩
  have srvE : srvS (sF n y.g) b ((msF n c.f).getD b.toNat 0) = sF n (g1F b) := by rw [msF_get b0 b1, fb, srv_F, yg]; rfl
  have g1b : g1F b b = 1 := by unfold g1F updI; rw [if_pos rfl]
  have g1o : ∀ m, m ≠ b → g1F b m = 0 := fun m h => by unfold g1F updI; rw [if_neg h]
  have lnE : lineUp b (rangeI n) (msF n c.f) (sF n (g1F b)) y.ns = A1 := by
    rw [yn, lineUp_F b0 b1 (fun m h => absurd h List.not_mem_nil), List.nil_append, eA1]
    refine rndF_congr b0 b1 fun m h0 h1 => ?_
    by_cases e : m = b
    · rw [e, g1b, fb]
      simp [bE]
    · rw [g1o m e, fo m h0 h1 e]
      by_cases h : m ∈ E0 <;> simp [h]
  have nbA : ∀ t rest, A1 = t :: rest → t ≠ b := fun t rest h e => by
    have : t ∈ rndF n b fun m => decide (m ∈ E0) := by rw [← eA1, h]; exact List.mem_cons_self ..
    have := ((rndF_mem b0 b1).mp this).2
    rw [e] at this
    exact bE (of_decide_eq_true this)
  by_cases cA : A1 = []
  · refine iteF' (by rw [decide_eq_true cA]; rfl) ?_
    refine ⟨_, rfl, _, rfl, L, _, _, _, rfl, rfl, SqL.of W6.at_, atc, c.o, c.dx, _, rfl, A0.hp, (A0.no "leave").2, c.o, c.dx, y.k, y.dk, c.ro, c.nu, c.pl, y.d, y.l, b, 0, 0, c.st, .non, rangeI n, msF n c.f, y.ns, [], sF n y.g, rfl, A0, KA, dpl, mb, b0, by omega, rangeI_nd n, fun m h => by have := rangeI_mem.mp h; omega, by rw [rangeI_len]; omega, by rw [yn]; exact Nat.zero_le _, ?_⟩
    rw [srvE, lnE]
    refine ⟨fun _ z2 l' H7 ch hl' A7 K7 kz => ?_, fun rest h => absurd rfl (nbA _ _ h), fun t rest h => (by rw [cA] at h; cases h)⟩
    have chf := ch.mono (foot_key ck)
    obtain ⟨y', ey'⟩ : ∃ y' : Ky, y' = { k := y.k, dk := y.dk, d := y.d, l := l', g := g1F b, ns := [] } := ⟨_, rfl⟩
    have CA7 : CaAt H7 C CK n b { c with st := "out", key := some y' } := ⟨by rw [ey']; exact A7, fun y2 ey => by cases ey; rw [ey']; exact K7⟩
    have lok : ∀ c2 ∈ cs, l' ≠ c2.nu ∧ l' ≠ c2.ro := fun c2 m2 => by
      obtain ⟨j, hj⟩ := List.mem_iff_getElem?.mp m2
      have B := (W6.all j c2 hj).at_
      exact ⟨(ne_of_none B.hn hl').symm, (ne_of_none B.hr hl').symm⟩
    have W7 := W6.set (c' := { c with st := "out", key := some y' }) (by omega) hc chf (by rw [show ((b.toNat : Nat) : Int) = b by omega]; exact CA7) rfl rfl rfl (fun y2 ey => by cases ey; rw [ey']; exact lok) (fun nk j c2 h2 ne => by
      cases e2 : c2.key with
      | none => rfl
      | some y2 => exact absurd (W6.one j b.toNat c2 c h2 hc (by rw [e2]; exact fun z => nomatch z) (by rw [ck]; exact fun z => nomatch z)) ne)
    have f7 := (Same.frn s6).trans (W6.frn hc chf)
    have f67 := W6.frn hc chf
    refine ⟨Nat.zero_le _, fun e2 he2 => ?_⟩
    have t1s := same_upd (o := .lst []) he2
    refine ⟨.list [], .list [], .lst (SqL.of (t1s _ _ kz)) .nil, .lst (SqL.of upd_same) .nil, by decide, by decide, _, rfl, iteF' (by decide +kernel) ?_⟩
    have W8 := W7.same t1s
    have A8 := A7.same t1s
    have K8 := K7.same t1s
    have hcz : ∀ {c9 : Ca}, (cs.set b.toNat c9)[b.toNat]? = some c9 := List.getElem?_set_self (List.getElem?_eq_some_iff.mp hc).1
    have atz : atI (((cs.set b.toNat { c with st := "out", key := some y' }).map (·.o)).map V.ref) b = some (.ref c.o) := by
      obtain ⟨c3, e3, _, e4⟩ := W8.caller b0 b1
      rw [hcz] at e3
      cases e3
      exact e4
    refine ⟨_, rfl, _, rfl, L, _, _, _, rfl, rfl, SqL.of W8.at_, atz, c.o, c.dx, _, rfl, A8.hp, (A8.no "bears").2, c.o, c.dx, b, "out", 0, c.ro, c.nu, .ref y.k, .non, c.pl, _, _, [], rfl, A8, .inr ⟨y.k, y.dk, 0, y.d, l', _, [], rfl, K8, fun tq S' H9 s9 pS uS dT => ?_⟩⟩
    have eS := pair_eq pS uS
    subst eS
    have t19 := t1s.trans s9
    refine ⟨_, rfl, Nat.zero_le _, fun e3 he3 => ?_⟩
    have t3s := same_upd (o := .tup []) he3
    refine ⟨by show 3 ≤ sizeLine; decide, fun u1 hu1 => ?_⟩
    have t4s := same_upd (o := .tup [.int 0, .ref pt, .ref e3]) hu1
    have t39 := t3s.trans t4s
    have tall := t19.trans t39
    have shp := shaped_told 0 (sF n (g1F b)) []
    have dptA := dp_same tall _ _ (dp_frn f67 _ _ (noL_pairs _) dpt6)
    refine ⟨toldD 0 (sF n (g1F b)) [], toldD 0 (sF n (g1F b)) [], dp_same t39 _ _ dT, .tup (SqT.of upd_same) (.cons (.int 0) (.cons dptA (.cons (.tup (SqT.of (t4s _ _ upd_same)) .nil) .nil))), shp, shp, _, rfl, iteF' (eq_bl (eqv_shaped shp)) ?_⟩
    have W9 := W7.same tall
    have A9 := A7.same tall
    have K9 := K7.same tall
    refine ⟨_, rfl, _, rfl, L, _, _, _, rfl, rfl, SqL.of W9.at_, atz, c.o, C, c.dx, _, _, rfl, A9.hp, S.cl, S.state, caF_stt _ _ _ _ _ _ _ _ _, rfl, _, rfl, iteF' (by decide +kernel) ?_⟩
    obtain ⟨HA, eHA⟩ : ∃ HA, HA = upd (upd H9 e3 (.tup [])) u1 (.tup [.int 0, .ref pt, .ref e3]) := ⟨_, rfl⟩
    rw [← eHA] at tall dptA W9 A9 K9
    rw [← eHA]
    have f9 := f7.trans (Same.frn tall)
    have kla9 := lst_frn f9 kla nla
    refine ⟨_, rfl, Nat.zero_le _, fun e4 he4 => ?_⟩
    have t5s := same_upd (o := .lst []) he4
    refine ⟨.list (TT.map PyData.int), .list [], dp_ints (t5s _ _ kla9), .lst (SqL.of upd_same) .nil, shaped_ints _, by decide, _, rfl, ?_⟩
    rw [eqv_nilI]
    have WB := W9.same t5s
    have AB := A9.same t5s
    have KB := K9.same t5s
    have fB := f9.trans (Same.frn t5s)
    have klaB := t5s _ _ kla9
    have dptB := dp_same t5s _ _ dptA
    obtain ⟨HB, eHB⟩ : ∃ HB, HB = upd HA e4 (.lst []) := ⟨_, rfl⟩
    rw [← eHB] at WB AB KB fB klaB dptB
    rw [← eHB]
    have nusE : (cs.set b.toNat { c with st := "out", key := some y' }).map (·.nu) = cs.map (·.nu) := nus_set hc rfl
    by_cases cT : TT = []
    · refine iteT' (decide_eq_true cT) ?_
      refine ⟨Nat.zero_le _, fun l hl => ?_⟩
      have sl := same_upd (o := .lst []) hl
      exact q2 cA cT l y' _ (by rw [ey']) (by rw [ey']) (WB.same sl) (fB.trans (Same.frn sl)) (by rw [← nusE]; exact WB.notN hl) upd_same
    · refine iteF' (decide_eq_false cT) ?_
      rcases TT with _ | ⟨t, T'⟩
      · exact absurd rfl cT
      obtain ⟨tz0, tz1, tb, tE⟩ := tT t (List.mem_cons_self ..)
      refine ⟨_, rfl, _, rfl, la, _, rfl, SqL.of klaB, fun a2 ha2 => ?_⟩
      rw [cut01]
      have t6s := same_upd (o := .lst ([t].map V.int)) ha2
      have na2 : a2 ∉ cs.map (·.nu) := by rw [← nusE]; exact WB.notN ha2
      have klaC := t6s _ _ klaB
      refine ⟨_, rfl, _, rfl, L, _, _, _, rfl, rfl, SqL.of (WB.same t6s).at_, atz, c.o, c.dx, _, rfl, (AB.same t6s).hp, ((AB.same t6s).no "hear").2, _, rfl, la, _, _, .int t, rfl, rfl, SqL.of klaC, atI_nat (j := 0) rfl, by show 2 ≤ sizeLine; decide, fun lt hlt => ?_⟩
      have t7s := same_upd (o := .tup [.str "ask", .int 1]) hlt
      have t67 := t6s.trans t7s
      have AC := AB.same t67
      have KC := KB.same t67
      have WC' := WB.same t67
      have noE : ∀ m, 0 ≤ m → m < n → m ∉ E0 := fun m h0 h1 hm => by
        have : m ∈ rndF n b fun m => decide (m ∈ E0) := (rndF_mem b0 b1).mpr ⟨⟨h0, h1⟩, decide_eq_true hm⟩
        rw [← eA1, cA] at this
        exact absurd this List.not_mem_nil
      have ft : c.f t = 0 := by rw [fo t tz0 tz1 tb, if_neg tE]
      have lrnE : learn (msF n c.f) t 1 = msF n (updI c.f t 1) := by rw [learn_F tz0 tz1, ft]; rfl
      have lnT : lineUp b (rangeI n) (msF n (updI c.f t 1)) (sF n (g1F b)) [] = [t] := by
        rw [lineUp_F b0 b1 (fun m h => absurd h List.not_mem_nil), List.nil_append]
        refine one_of (rndF_nd b0 b1) fun m => ?_
        rw [rndF_mem b0 b1]
        constructor
        · rintro ⟨⟨h0, h1⟩, h2⟩
          by_cases e : m = t
          · exact e
          · exfalso
            have h2 : g1F b m < updI c.f t 1 m := by simpa using h2
            unfold updI at h2
            rw [if_neg e] at h2
            by_cases eb : m = b
            · rw [eb, g1b, fb] at h2
              omega
            · rw [g1o m eb, fo m h0 h1 eb, if_neg (noE m h0 h1)] at h2
              omega
        · intro e
          subst e
          refine ⟨⟨tz0, tz1⟩, ?_⟩
          have : g1F b m < updI c.f m 1 m := by
            unfold updI
            rw [if_pos rfl, g1o m tb]
            omega
          simp [this]
      have kD' : (keyV (some y')) = V.ref y.k := by rw [ey']; rfl
      refine ⟨c.o, c.dx, lt, t, _, rfl, AC.hp, (AC.no "_hear_ask").2, (AC.no "_hear_key").2, .inl ⟨1, SqT.of upd_same, c.o, c.dx, c.ro, c.nu, c.pl, b, 0, t, 1, "out", .ref y.k, .non, rangeI n, msF n c.f, [], rfl, AC, tz0, by omega, (W6.nr c mc c mc).symm, .inr ⟨y.k, y.dk, y.d, l', 0, sF n (g1F b), [], rfl, by decide +kernel, KC, (lok c mc).1, rangeI_nd n, fun m h => by have := rangeI_mem.mp h; omega, by rw [rangeI_len]; omega, Nat.zero_le _, ?_⟩⟩⟩
      rw [lrnE, lnT]
      refine ⟨fun h => (by cases h), fun rest h => (by have : t = b := by injection h
                                                       exact absurd this tb), fun t' rest' e ne z3 zs3 S2 HD chD AD pS2 uS2 kz3 dz3 => ?_⟩
      have e1 : t' = t := by injection e with h _; exact h.symm
      have e2 : rest' = [] := by injection e with _ h; exact h.symm
      subst e1
      subst e2
      have eS2 := pair_eq pS2 uS2
      subst eS2
      have chfD := chD.mono (foot_key4 (c := { c with st := "out", key := some y' }) (y := { k := y.k, dk := y.dk, d := y.d, l := l', g := g1F b, ns := [] }) (by rw [ey']))
      have CAD : CaAt HD C CK n b { c with st := "out", key := none, f := updI c.f t' 1 } := ⟨AD, fun y2 ey => by cases ey⟩
      have WD := WC'.set (c' := { c with st := "out", key := none, f := updI c.f t' 1 }) (by omega) hcz chfD (by rw [show ((b.toNat : Nat) : Int) = b by omega]; exact CAD) rfl rfl rfl (fun y2 ey => by cases ey) (fun nk => absurd rfl nk)
      rw [List.set_set] at WD
      have fD0 := WC'.frn hcz chfD
      rw [nusE] at fD0
      have fD := (fB.trans (Same.frn t67)).trans fD0
      have klaD := lst_frn fD0 (t7s _ _ klaC) nla
      have ka2D := lst_frn fD0 (t7s _ _ (show _ = _ from upd_same)) na2
      have dptD := dp_frn fD0 _ _ (noL_pairs _) (dp_same t67 _ _ dptB)
      refine ⟨_, rfl, la, _, _, .int t', rfl, rfl, SqL.of klaD, atI_nat (j := 0) rfl, _, rfl, Nat.zero_le _, fun e5 he5 => ?_⟩
      have v1s := same_upd (o := .tup []) he5
      refine ⟨by show 4 ≤ sizeLine; decide, fun u4 hu4 => ?_⟩
      have v2s := same_upd (o := .tup [.str "key", .int 0, .ref pt, .ref e5]) hu4
      refine ⟨by show 2 ≤ sizeLine; decide, fun u5 hu5 => ?_⟩
      have v3s := same_upd (o := .tup [.int t', .ref u4]) hu5
      refine ⟨by show 1 ≤ sizeLine; decide, fun u6 hu6 => ?_⟩
      have v4s := same_upd (o := .lst [.ref u5]) hu6
      have v24 := (v2s.trans v3s).trans v4s
      have vall := v1s.trans v24
      have shp2 := shaped_tos (lay_key 0 (sF n (g1F b)) []) (deep_key _ _ _) [t']
      refine ⟨.list [toD (keyD 0 (sF n (g1F b)) []) t'], .list [toD (keyD 0 (sF n (g1F b)) []) t'], .lst (SqL.of (vall _ _ kz3)) (dps_same vall _ _ dz3), .lst (SqL.of upd_same) (.cons (.tup (SqT.of (v4s _ _ upd_same)) (.cons (.int t') (.cons (.tup (SqT.of ((v3s.trans v4s) _ _ upd_same)) (.cons (.str _) (.cons (.int _) (.cons (dp_same vall _ _ dptD) (.cons (.tup (SqT.of (v24 _ _ upd_same)) .nil) .nil))))) .nil))) .nil), shp2, shp2, _, rfl, iteF' (eq_bl (eqv_shaped shp2)) ?_⟩
      have WE := WD.same vall
      have hcz : ∀ {c9 : Ca}, (cs.set b.toNat c9)[b.toNat]? = some c9 := List.getElem?_set_self (List.getElem?_eq_some_iff.mp hc).1
      have atz : atI (((cs.set b.toNat ({ c with st := "out", key := none, f := updI c.f t' 1 })).map (·.o)).map V.ref) b = some (.ref c.o) := by
        obtain ⟨c3, e3, _, e4⟩ := (WE).caller b0 b1
        rw [hcz] at e3
        cases e3
        exact e4
      have A9 := (AD.same vall)
      refine ⟨_, rfl, _, rfl, L, _, _, _, rfl, rfl, SqL.of (WE).at_, atz, c.o, c.dx, _, rfl, A9.hp, (A9.no "bears").2, c.o, c.dx, b, "out", 0, c.ro, c.nu, .non, .non, c.pl, _, _, [], rfl, A9, .inl ⟨rfl, ?_⟩⟩
      refine ⟨rfl, _, rfl, iteF' rfl ?_⟩
      refine ⟨_, rfl, _, rfl, L, _, _, _, rfl, rfl, SqL.of (WE).at_, atz, c.o, C, c.dx, _, _, rfl, A9.hp, S.cl, S.state, caF_stt _ _ _ _ _ _ _ _ _, rfl, _, rfl, iteF' (by decide +kernel) ?_⟩
      exact ⟨_, rfl, q3 t' T' cA rfl a2 _ WE (fD.trans (Same.frn vall)) na2 (vall _ _ ka2D)⟩
  · refine iteT' (by rw [decide_eq_false cA]; rfl) ?_
    refine ⟨_, rfl, _, rfl, L, _, _, _, rfl, rfl, SqL.of W6.at_, atc, c.o, c.dx, _, rfl, A0.hp, (A0.no "leave").2, c.o, c.dx, y.k, y.dk, c.ro, c.nu, c.pl, y.d, y.l, b, 0, 0, c.st, .non, rangeI n, msF n c.f, y.ns, [], sF n y.g, rfl, A0, KA, dpl, mb, b0, by omega, rangeI_nd n, fun m h => by have := rangeI_mem.mp h; omega, by rw [rangeI_len]; omega, by rw [yn]; exact Nat.zero_le _, ?_⟩
    rw [srvE, lnE]
    refine ⟨fun h => absurd h cA, fun rest h => absurd rfl (nbA _ _ h), fun t rest eAt ne z2 zs S' H7 ch A7 pS uS kz dz => ?_⟩
    have eS := pair_eq pS uS
    subst eS
    have chf := ch.mono (foot_key ck)
    have CA7 : CaAt H7 C CK n b { c with st := "out", key := none } := ⟨A7, fun y ey => by cases ey⟩
    have W7 := W6.set (c' := { c with st := "out", key := none }) (by omega) hc chf (by rw [show ((b.toNat : Nat) : Int) = b by omega]; exact CA7) rfl rfl rfl (fun y ey => by cases ey) (fun nk => absurd rfl nk)
    have f7 := W6.frn hc chf
    have kah7 := lst_frn f7 kah6 nah
    have dpt7 := dp_frn f7 _ _ (noL_pairs _) dpt6
    rw [eAt] at kah7
    refine ⟨_, rfl, ah, _, _, .int t, rfl, rfl, SqL.of kah7, atI_nat (j := 0) rfl, _, rfl, _, rfl, _, rfl, ah, _, rfl, SqL.of kah7, fun s1 hs1 => ?_⟩
    rw [cut1]
    have t1s := same_upd (o := .lst (rest.map V.int)) hs1
    refine ⟨s1, _, rfl, .inl ⟨SqL.of upd_same, fun tp htp => ?_⟩⟩
    have t2s := same_upd (o := .tup (rest.map V.int)) htp
    refine ⟨by show 4 ≤ sizeLine; decide, fun u1 hu1 => ?_⟩
    have t3s := same_upd (o := .tup [.str "key", .int 0, .ref pt, .ref tp]) hu1
    refine ⟨by show 2 ≤ sizeLine; decide, fun u2 hu2 => ?_⟩
    have t4s := same_upd (o := .tup [.int t, .ref u1]) hu2
    refine ⟨by show 1 ≤ sizeLine; decide, fun u3 hu3 => ?_⟩
    have t5s := same_upd (o := .lst [.ref u2]) hu3
    have tall := (((t1s.trans t2s).trans t3s).trans t4s).trans t5s
    have t35 := (t3s.trans t4s).trans t5s
    have shp := shaped_tos (lay_key 0 (sF n (g1F b)) rest) (deep_key _ _ _) [t]
    refine ⟨.list [toD (keyD 0 (sF n (g1F b)) rest) t], .list [toD (keyD 0 (sF n (g1F b)) rest) t], .lst (SqL.of (tall _ _ kz)) (dps_same tall _ _ dz), .lst (SqL.of upd_same) (.cons (.tup (SqT.of (t5s _ _ upd_same)) (.cons (.int t) (.cons (.tup (SqT.of ((t4s.trans t5s) _ _ upd_same)) (.cons (.str _) (.cons (.int _) (.cons (dp_same tall _ _ dpt7) (.cons (dp_tupI (SqT.of (t35 _ _ upd_same))) .nil))))) .nil))) .nil), shp, shp, _, rfl, iteF' (eq_bl (eqv_shaped shp)) ?_⟩
    have W8 := W7.same tall
    have hcz : ∀ {c9 : Ca}, (cs.set b.toNat c9)[b.toNat]? = some c9 := List.getElem?_set_self (List.getElem?_eq_some_iff.mp hc).1
    have atz : atI (((cs.set b.toNat ({ c with st := "out", key := none })).map (·.o)).map V.ref) b = some (.ref c.o) := by
      obtain ⟨c3, e3, _, e4⟩ := (W8).caller b0 b1
      rw [hcz] at e3
      cases e3
      exact e4
    have A9 := (A7.same tall)
    refine ⟨_, rfl, _, rfl, L, _, _, _, rfl, rfl, SqL.of (W8).at_, atz, c.o, c.dx, _, rfl, A9.hp, (A9.no "bears").2, c.o, c.dx, b, "out", 0, c.ro, c.nu, .non, .non, c.pl, _, _, [], rfl, A9, .inl ⟨rfl, ?_⟩⟩
    refine ⟨rfl, _, rfl, iteF' rfl ?_⟩
    refine ⟨_, rfl, _, rfl, L, _, _, _, rfl, rfl, SqL.of (W8).at_, atz, c.o, C, c.dx, _, _, rfl, A9.hp, S.cl, S.state, caF_stt _ _ _ _ _ _ _ _ _, rfl, _, rfl, iteF' (by decide +kernel) ?_⟩
    refine ⟨_, rfl, q1 cA ah _ W8 ((Same.frn s6).trans (f7.trans (Same.frn tall))) nah (by rw [eAt]; exact tall _ _ kah7)⟩
end

end G0
namespace G0
open PySem PySem.Spec PyProof.Rows L2 NdefX ClX
set_option maxHeartbeats 8000000
section
variable {P : Program} {w : World} {K : PySem.W.Frag} {mg : Str → Option Value} {base : Heap} {C CK : Addr}
/-! ### the second one leaves -/
def onF (s : Int) : Int → Int := fun m => if m = s then 1 else 0
def prs1 (l : List Int) : List (Int × Int) := l.map fun m => (m, 1)
theorem prs1_fst (l : List Int) : (prs1 l).map (·.1) = l := by
  unfold prs1
  rw [List.map_map]
  exact List.map_id l
theorem prs1_D (l : List Int) : (prs1 l).map pairD = l.map fun m => pairD (m, 1) := by
  unfold prs1
  rw [List.map_map]
  rfl
/-- both ways go on alike -/
theorem iteJ {c : Prop} [Decidable c] {D : L2.Ends} {σ : L2.St} {G : Hp} {A : Prop} (R : Hp → Prop) (h1 : c → (∀ H, R H → D.nx σ H) → A) (h2 : ¬ c → R G) (h : ∀ H, R H → D.nx σ H) : if c then A else tNext D σ G :=
  ite2 (fun c => h1 c h) fun c => h G (h2 c)
theorem FrN.mono {N M : List Addr} {H H' : Hp} (f : FrN N H H') (s : ∀ a ∈ N, a ∈ M) : FrN M H H' := fun a o e n1 n2 n3 => f a o e n1 n2 fun x m => n3 x (s a m)
theorem frn_lst {H : Hp} {N : List Addr} {a : Addr} {xs : List V} {o : HO} (h : H a = some (.lst xs)) (m : a ∈ N) : FrN N H (upd H a o) := fun x o' e _ _ n3 => (upd_ne (fun z => n3 (by rw [z, h] at e; exact ⟨_, (Option.some.inj e).symm⟩) (by rw [z]; exact m))).trans e
theorem WC.notR {H : Hp} {C CK L : Addr} {n : Int} {cs : List Ca} (W : WC H C CK L n cs) {a : Addr} (h : H a = none) : a ∉ cs.map (·.ro) := fun m => by
  obtain ⟨c3, m3, e3⟩ := List.mem_map.mp m
  obtain ⟨j, hj⟩ := List.mem_iff_getElem?.mp m3
  have := (W.all j c3 hj).at_.hr
  rw [e3, h] at this
  cases this
theorem WC.kls {H : Hp} {C CK L : Addr} {n : Int} {cs : List Ca} (W : WC H C CK L n cs) {a : Addr} (h : H a = none) : ∀ c ∈ cs, ∀ y, c.key = some y → a ≠ y.l := fun c3 m3 y ey e => by
  obtain ⟨j, hj⟩ := List.mem_iff_getElem?.mp m3
  have := ((W.all j c3 hj).key y ey).hl
  rw [← e, h] at this
  cases this
theorem WC.out {H : Hp} {C CK L : Addr} {n : Int} {cs : List Ca} (W : WC H C CK L n cs) {a : Addr} {xs : List V} {o : HO} (h : H a = some (.lst xs)) (hL : a ≠ L) (hn : a ∉ cs.map (·.nu)) (hr : a ∉ cs.map (·.ro)) (hl : ∀ c ∈ cs, ∀ y, c.key = some y → a ≠ y.l) : WC (upd H a o) C CK L n cs :=
  { W with
    at_ := (upd_ne hL.symm).trans W.at_
    all := fun i c e => by
      have B := W.all i c e
      have m := List.mem_of_getElem? e
      have ins : ∀ {x : Addr} {o' : HO}, H x = some o' → (∀ ys, o' ≠ .lst ys) → upd H a o x = some o' := fun {x o'} e n => (upd_ne (fun z => by rw [z, h] at e; exact n _ (Option.some.inj e).symm)).trans e
      refine ⟨⟨ins B.at_.hp (fun _ z => nomatch z), (upd_ne (fun z => hr (by rw [← z]; exact List.mem_map.mpr ⟨c, m, rfl⟩))).trans B.at_.hr, (upd_ne (fun z => hn (by rw [← z]; exact List.mem_map.mpr ⟨c, m, rfl⟩))).trans B.at_.hn, ins B.at_.hpl (fun _ z => nomatch z)⟩, fun y ey => ?_⟩
      have KB := B.key y ey
      exact { KB with hp := ins KB.hp (fun _ z => nomatch z), hd := ins KB.hd (fun _ z => nomatch z), hl := (upd_ne (hl c m y ey).symm).trans KB.hl } }
def spSecond (K : PySem.W.Frag) (C CK : Addr) : Sp := fun vs H Q _ => ∃ (L ah ka : Addr) (n b me bits : Int) (cs : List Ca) (cb cm : Ca) (rest ks : List Int), vs = [.ref L, .int b, .ref ah, .ref ka, .int bits] ∧ WC H C CK L n cs ∧ 2 ≤ n ∧ n ≤ 60 ∧ 0 ≤ b ∧ b < n ∧ (∀ c ∈ cs, c.key = none) ∧ cs[b.toNat]? = some cb ∧ cb.f b = 1 ∧
  H ah = some (.lst ((me :: rest).map V.int)) ∧ ah ∉ cs.map (·.nu) ∧ 0 ≤ me ∧ me < n ∧ me ≠ b ∧ cs[me.toNat]? = some cm ∧ cm.st = "asking" ∧ cm.f = onF me ∧ rest.Nodup ∧ (∀ m ∈ rest, 0 ≤ m ∧ m < n ∧ m ≠ me) ∧
  H ka = some (.lst (ks.map V.int)) ∧ ka ∉ cs.map (·.nu) ∧ ks.Nodup ∧ (∀ m ∈ ks, 0 ≤ m ∧ m < n ∧ m ≠ b) ∧ ∀ H', Q (.bl true) H'
theorem sc_law_second_leaves : FnScope ["ones", "begins", "ahead", "askers", "bits", "me", "served", "others", "seat", "before", "behind", "heard", "some", "number", "line", "due"] ["ones", "begins", "ahead", "askers", "bits"] (defScope s_law_second_leaves) :=
  ⟨rfl, rfl, rfl, by decide +kernel, rfl, by decide +kernel, by decide +kernel⟩
theorem ok_second (F : Fn K mg "_law_second_leaves" s_law_second_leaves) (T0 : BlT72 mg) (S : CalT K C) (C_round_from : Cal P w K mg base "_law_round_from" 1 ["seats", "me", "some"] (spRound K)) (C_pairs : Cal P w K mg base "_law_pairs" 1 ["served"] (spPairs K))
    (C_among : Cal P w K mg base "_law_among" 1 ["bits", "seats"] (spAmong K)) (C_quiet : Cal P w K mg base "_law_quiet" 6 ["one", "heard", "state"] (spQuiet K C CK)) (C_asked : Cal P w K mg base "_law_asked" 3 ["ones", "me", "number"] (spAsked K C CK))
    (ML : Me P w K mg base C "leave" 4 ["self"] (spLeaveC K C CK)) (MB : Me P w K mg base C "bears" 2 ["self"] (spBears K C CK)) (MH : Me P w K mg base C "hear" 5 ["self", "sender", "letter"] (spHearC K C CK)) : Cal P w K mg base "_law_second_leaves" 7 ["ones", "begins", "ahead", "askers", "bits"] (spSecond K C CK) := by
  obtain ⟨fL, fdL, GL, bL, mL⟩ := ML
  obtain ⟨fB, fdB, GB, bB, mB⟩ := MB
  obtain ⟨fH, fdH, GH, bH, mH⟩ := MH
  have T := T0
  refine cal_of F sc_law_second_leaves
    (fun _ _ _ _ _ _ us hl => match us, hl with | [_, _, _, _, _], _ => rfl) ?_ ?_
  · rintro vs H Q E ⟨_, _, _, _, _, _, _, _, _, _, _, _, rfl, _⟩
    rfl
  rintro f cdv A outer s H vs Q E free hr ⟨L, ah, ka, n, b, me, bits, cs, cb, cm, rest, ks, rfl, W, n2, n60, b0, b1, nok, hb, bf, kah, nah, m0, m1, mb, hm, ms, mf, ndR, bR, kka, nka, ndK, bK, fin⟩
  have hr5 : Room 5 _ := hr.mono (by decide)
  have hr4 : Room 4 _ := hr.mono (by decide)
  have hr2 : Room 2 _ := hr.mono (by decide)
  refine ⟨_, (pss_cons (ps_set (i := 5) sc_law_second_leaves.nd rfl (Or.inr rfl) (pe_ix ix_list (pv 2) pe_int (fun _ _ => rfl)))
    (pss_cons (ps_set (i := 6) sc_law_second_leaves.nd rfl (Or.inl rfl) (pe_op op_rep (pe_lst (pa_cons pe_int pa_nil)) (pe_callB call_len_seq (by rfl) T.len (by decide +kernel) (pa_cons (pv 0) pa_nil))))
    (pss_cons (ps_asg pe_int (pg_sub (pv 6) (pv 1) set_list))
    (pss_cons (ps_setLc (i := 7) (own := [("seat", 8)]) (g := gName 8)  (by rfl) sc_law_second_leaves.nd rfl rfl (sw_true rfl rfl rfl (by decide +kernel)) (pi_list (pv 3)) (blkOk_by (N := ["ones", "begins", "ahead", "askers", "bits", "me", "served", "others", "seat", "before", "behind", "heard", "some", "number", "line", "due"]) (sc := defScope s_law_second_leaves) (by decide +kernel)) (fun _ _ _ _ _ => pg_name (i := 8) sc_law_second_leaves.nd rfl (Or.inl rfl)) (fun _ _ _ _ _ => pts_one (pt_cmpR op_ne (pv 8) (pv 5) (nomark _))) (fun _ _ _ _ _ => (pv 8)))
    (pss_cons (ps_set (i := 9) sc_law_second_leaves.nd rfl (Or.inr rfl) (pe_cal C_among free (hr.mono (by decide)) (pa_cons (pv 4) (pa_cons (pv 7) pa_nil))))
    (pss_cons (ps_setLc (i := 10) (own := [("seat", 8)]) (g := gName 8)  (by rfl) sc_law_second_leaves.nd rfl rfl (sw_true rfl rfl rfl (by decide +kernel)) (pi_list (pe_cal C_among free (hr.mono (by decide)) (pa_cons (pe_op op_shr (pv 4) pe_int) (pa_cons (pv 7) pa_nil)))) (blkOk_by (N := ["ones", "begins", "ahead", "askers", "bits", "me", "served", "others", "seat", "before", "behind", "heard", "some", "number", "line", "due"]) (sc := defScope s_law_second_leaves) (by decide +kernel)) (fun _ _ _ _ _ => pg_name (i := 8) sc_law_second_leaves.nd rfl (Or.inl rfl)) (fun _ _ _ _ _ => pts_one (pt_cmpR (u_notinK K) (pv 8) (pv 9) (by rfl))) (fun _ _ _ _ _ => (pv 8)))
    (pss_cons (ps_if (pt_not (pt_val (pe_cal C_quiet free (hr.mono (by decide)) (pa_cons (pe_ix ix_list (pv 0) (pv 5) (fun _ _ => rfl)) (pa_cons (pe_lc (own := [("seat", 8)]) (g := gName 8) (tt := tYes) (by rfl) sc_law_second_leaves.nd (pi_list (pv 9)) (blkOk_by (N := ["ones", "begins", "ahead", "askers", "bits", "me", "served", "others", "seat", "before", "behind", "heard", "some", "number", "line", "due"]) (sc := defScope s_law_second_leaves) (by decide +kernel)) (fun _ _ _ _ _ => pg_name (i := 8) sc_law_second_leaves.nd rfl (Or.inl rfl)) (fun _ _ _ _ _ => pts_nil) (fun _ _ _ _ _ => (pe_tup (pa_cons (pv 8) (pa_cons pe_int pa_nil))))) (pa_cons pe_str pa_nil))))))
    (pss_one (ps_ret pe_bl))
    pss_nil)
    (pss_cons (ps_if (PW.pt (pw_or (pt_cmpR (op_neD (u64 hr)) (pe_meth (pe_ix ix_list (pv 0) (pv 5) (fun _ _ => rfl)) S.cl mH GH hr5 bH .nil pass0 (pa_cons (pv 1) (pa_cons (pe_tup (pa_cons pe_str (pa_cons pe_int (pa_cons (pe_cal C_pairs free (hr.mono (by decide)) (pa_cons (pv 6) pa_nil)) (pa_cons (pe_callTy call_tuple_of (by rfl) T.tuple (by decide +kernel) (pa_cons (pe_slice sl_list (pv 2) (po_some pe_int) po_none) pa_nil)) pa_nil))))) pa_nil))) (pe_lst pa_nil) (nomark _)) (pw_or1 (pt_cmpR op_ne (pe_fld (pe_ix ix_list (pv 0) (pv 5) (fun _ _ => rfl)) (by rfl)) pe_str (nomark _)))))
    (pss_one (ps_ret pe_bl))
    pss_nil)
    (pss_cons (ps_if (pt_cmpR (op_neD (u64 hr)) (pe_meth0 (pe_ix ix_list (pv 0) (pv 5) (fun _ _ => rfl)) S.cl mB GB hr2 bB .nil pass0) (pe_tup (pa_cons pe_int (pa_cons (pe_cal C_pairs free (hr.mono (by decide)) (pa_cons (pv 6) pa_nil)) (pa_cons (pe_callTy call_tuple_of (by rfl) T.tuple (by decide +kernel) (pa_cons (pe_slice sl_list (pv 2) (po_some pe_int) po_none) pa_nil)) pa_nil)))) (nomark _))
    (pss_one (ps_ret pe_bl))
    pss_nil)
    (pss_cons (ps_setLc (i := 11) (own := [("seat", 8)]) (g := gName 8) (tt := tYes) (by rfl) sc_law_second_leaves.nd rfl rfl (sw_true rfl rfl rfl (by decide +kernel)) (pi_list (pv 10)) (blkOk_by (N := ["ones", "begins", "ahead", "askers", "bits", "me", "served", "others", "seat", "before", "behind", "heard", "some", "number", "line", "due"]) (sc := defScope s_law_second_leaves) (by decide +kernel)) (fun _ _ _ _ _ => pg_name (i := 8) sc_law_second_leaves.nd rfl (Or.inl rfl)) (fun _ _ _ _ _ => pts_nil) (fun _ _ _ _ _ => (pe_tup (pa_cons (pv 8) (pa_cons pe_int pa_nil)))))
    (pss_cons (ps_if (pt_cmpR op_eq (pe_op op_and (pe_op op_shr (pv 4) (pv 1)) pe_int) pe_int (nomark _))
    (pss_cons (ps_if (pt_not (pt_val (pe_cal C_asked free (hr.mono (by decide)) (pa_cons (pv 0) (pa_cons (pv 1) (pa_cons pe_int pa_nil))))))
    (pss_one (ps_ret pe_bl))
    pss_nil)
    (pss_one (ps_expr (pe_bm PySem.F.plainAttrs_list PySem.F.slot_list_append PySem.F.type_list_append mt_append (pv 11) (pa_cons (pe_tup (pa_cons (pv 1) (pa_cons pe_int pa_nil))) pa_nil)))))
    pss_nil)
    (pss_cons (ps_if (pt_not (pt_val (pe_cal C_quiet free (hr.mono (by decide)) (pa_cons (pe_ix ix_list (pv 0) (pv 5) (fun _ _ => rfl)) (pa_cons (pv 11) (pa_cons pe_str pa_nil))))))
    (pss_one (ps_ret pe_bl))
    pss_nil)
    (pss_cons (ps_asg pe_int (pg_sub (pv 6) (pv 5) set_list))
    (pss_cons (ps_set (i := 12) sc_law_second_leaves.nd rfl (Or.inl rfl) (pe_op op_cat (pv 9) (pe_lc (own := [("seat", 8), ("number", 13)]) (g := gTup K 2 (gCons (gName 8) (gCons (gName 13) gNil))) (tt := tYes) (by rfl) sc_law_second_leaves.nd (pi_list (pv 11)) (blkOk_by (N := ["ones", "begins", "ahead", "askers", "bits", "me", "served", "others", "seat", "before", "behind", "heard", "some", "number", "line", "due"]) (sc := defScope s_law_second_leaves) (by decide +kernel)) (fun _ _ _ _ _ => pg_tup (by rfl) (pgs_cons (pg_name (i := 8) sc_law_second_leaves.nd rfl (Or.inl rfl)) (pgs_cons (pg_name (i := 13) sc_law_second_leaves.nd rfl (Or.inl rfl)) pgs_nil))) (fun _ _ _ _ _ => pts_nil) (fun _ _ _ _ _ => (pv 8)))))
    (pss_cons (ps_set (i := 14) sc_law_second_leaves.nd rfl (Or.inl rfl) (pe_op op_cat (pe_slice sl_list (pv 2) (po_some pe_int) po_none) (pe_lc (own := [("seat", 8)]) (g := gName 8)  (by rfl) sc_law_second_leaves.nd (pi_list (pe_cal C_round_from free (hr.mono (by decide)) (pa_cons (pe_callB call_len_seq (by rfl) T.len (by decide +kernel) (pa_cons (pv 0) pa_nil)) (pa_cons (pv 5) (pa_cons (pv 12) pa_nil))))) (blkOk_by (N := ["ones", "begins", "ahead", "askers", "bits", "me", "served", "others", "seat", "before", "behind", "heard", "some", "number", "line", "due"]) (sc := defScope s_law_second_leaves) (by decide +kernel)) (fun _ _ _ _ _ => pg_name (i := 8) sc_law_second_leaves.nd rfl (Or.inl rfl)) (fun _ _ _ _ _ => pts_one (pt_cmpR (u_notinK K) (pv 8) (pv 2) (by rfl))) (fun _ _ _ _ _ => (pv 8)))))
    (pss_cons (ps_if (pt_cmpR (op_eqD (u64 hr)) (pv 14) (pe_lst pa_nil) (nomark _))
    (pss_one (ps_ret (pe_and (pe_cmpR (op_eqD (u64 hr)) (pe_meth0 (pe_ix ix_list (pv 0) (pv 5) (fun _ _ => rfl)) S.cl mL GL hr4 bL .nil pass0) (pe_lst pa_nil) (nomark _)) (pe_one (pe_cmpR (op_eqD (u64 hr)) (pe_meth0 (pe_ix ix_list (pv 0) (pv 5) (fun _ _ => rfl)) S.cl mB GB hr2 bB .nil pass0) (pe_tup (pa_cons pe_int (pa_cons (pe_cal C_pairs free (hr.mono (by decide)) (pa_cons (pv 6) pa_nil)) (pa_cons (pe_tup pa_nil) pa_nil)))) (nomark _))))))
    pss_nil)
    (pss_cons (ps_set (i := 15) sc_law_second_leaves.nd rfl (Or.inl rfl) (pe_lst (pa_cons (pe_tup (pa_cons (pe_ix ix_list (pv 14) pe_int (fun _ _ => rfl)) (pa_cons (pe_tup (pa_cons pe_str (pa_cons pe_int (pa_cons (pe_cal C_pairs free (hr.mono (by decide)) (pa_cons (pv 6) pa_nil)) (pa_cons (pe_callTy call_tuple_of (by rfl) T.tuple (by decide +kernel) (pa_cons (pe_slice sl_list (pv 14) (po_some pe_int) po_none) pa_nil)) pa_nil))))) pa_nil))) pa_nil)))
    (pss_one (ps_ret (pe_and (pe_cmpR (op_eqD (u64 hr)) (pe_meth0 (pe_ix ix_list (pv 0) (pv 5) (fun _ _ => rfl)) S.cl mL GL hr4 bL .nil pass0) (pv 15) (nomark _)) (pe_and (pe_cmpR op_isN (pe_meth0 (pe_ix ix_list (pv 0) (pv 5) (fun _ _ => rfl)) S.cl mB GB hr2 bB .nil pass0) pe_non (nomark _)) (pe_one (pe_cmpR op_eq (pe_fld (pe_ix ix_list (pv 0) (pv 5) (fun _ _ => rfl)) (by rfl)) pe_str (nomark _)))))))))))))))))))))))), ?_⟩
  have lL : ((cs.map (·.o)).map V.ref).length = n.toNat := by rw [List.length_map, List.length_map, W.len]
  have rgb : ∀ {l : List Int}, l.Nodup → (∀ m ∈ l, 0 ≤ m ∧ m < n) → l.length ≤ 60 := fun {l} nd h => by
    have p : l.Perm ((rangeI n).filter fun m => decide (m ∈ l)) := (List.perm_ext_iff_of_nodup nd ((rangeI_nd n).filter _)).mpr fun m => by
      rw [List.mem_filter, rangeI_mem, decide_eq_true_eq]
      exact ⟨fun hm => ⟨h m hm, hm⟩, fun hm => hm.2⟩
    have l1 := List.length_filter_le (fun m => decide (m ∈ l)) (rangeI n)
    rw [← p.length_eq, rangeI_len] at l1
    omega
  have lK := rgb ndK fun m hm => ⟨(bK m hm).1, (bK m hm).2.1⟩
  have lR := rgb ndR fun m hm => ⟨(bR m hm).1, (bR m hm).2.1⟩
  refine ⟨_, rfl, ah, _, _, .int me, rfl, rfl, SqL.of kah, atI_nat (j := 0) rfl, ?_⟩
  refine ⟨by show 1 ≤ sizeLine; decide, fun z hz => ?_⟩
  have s1 := same_upd (o := .lst [.int 0]) hz
  refine ⟨_, rfl, L, _, rfl, .inl (SqL.of (s1 _ _ W.at_)), z, _, _, rfl, rfl, upd_same, by rw [lL]; omega, by rw [lL]; omega, ?_, fun sv hsv => ?_⟩
  · rw [lL]
    show _ ≤ sizeLine
    refine Nat.le_trans (show _ ≤ 100 from ?_) (by decide)
    simp
    omega
  have e0 : (List.replicate (Int.toNat ((((cs.map (·.o)).map V.ref).length : Nat) : Int)) [V.int 0]).flatten = (msF n fun _ => 0).map V.int := by
    rw [lL, flat_zero, ← zeros_F]
    rfl
  rw [e0] at *
  have s2 := s1.trans (same_upd (o := .lst ((msF n fun _ => 0).map V.int)) hsv)
  have eN : ((((cs.map (·.o)).map V.ref).length : Nat) : Int) = n := by rw [lL]; omega
  refine ⟨_, rfl, _, rfl, sv, _, _, b.toNat, rfl, rfl, upd_same, ?_, ?_⟩
  · rw [List.length_map, msF_len, show b = ((b.toNat : Nat) : Int) by omega]
    exact ix_n (by omega)
  rw [← List.map_set, msF_set b0, upd_upd]
  have s3 : Same H (upd (upd H z (.lst [.int 0])) sv (.lst ((msF n (g1F b)).map V.int))) := s1.trans (same_upd hsv)
  obtain ⟨G3, e3⟩ : ∃ G3, G3 = upd (upd H z (.lst [.int 0])) sv (.lst ((msF n (g1F b)).map V.int)) := ⟨_, rfl⟩
  have ksv : G3 sv = some (.lst ((msF n (g1F b)).map V.int)) := by rw [e3]; exact upd_same
  rw [show updI (fun _ => 0) b 1 = g1F b from rfl, ← e3]
  rw [← e3] at s3
  have svN : sv ∉ cs.map (·.nu) := (W.same s1).notN hsv
  clear e3 e0
  have kka3 := s3 _ _ kka
  refine ⟨_, rfl, ka, rfl, ⟨_, SqL.of kka3⟩, fun D hD => ?_⟩
  refine lc_filtI (K := K) (a := ka) (ns := ks) (fun m => !decide (m = me)) (by omega) hD (SqL.of kka3) (fun i x G Y B hx sG h => ?_) (fun G4 s4 kD4 => ?_)
  · refine ⟨rfl, _, rfl, _, rfl, rfl, _, rfl, ?_⟩
    exact tst (by rw [dec_ii]) (fun y => ⟨_, rfl, y⟩) h
  obtain ⟨oth, eo⟩ : ∃ oth, oth = ks.filter fun m => !decide (m = me) := ⟨_, rfl⟩
  have lO : oth.length ≤ 60 := by rw [eo]; exact Nat.le_trans (List.length_filter_le _ _) lK
  have bO : ∀ m ∈ oth, (0 ≤ m ∧ m < n ∧ m ≠ b) ∧ m ≠ me := fun m hm => by
    rw [eo] at hm
    have h := List.mem_filter.mp hm
    exact ⟨bK m h.1, by simpa using h.2⟩
  have ndO : oth.Nodup := by rw [eo]; exact ndK.filter _
  rw [← eo] at kD4
  refine ⟨_, rfl, _, rfl, bits, D, oth, rfl, kD4, by omega, fun m hm => by have := (bO m hm).1; omega, fun bl H5 s5 hbl kbl => ?_⟩
  obtain ⟨bef, ebf⟩ : ∃ bef, bef = oth.filter (bitB bits) := ⟨_, rfl⟩
  rw [← ebf] at kbl
  have kD5 := s5 _ _ kD4
  refine ⟨_, rfl, _, _, rfl, rfl, (show (0 : Int) ≤ 1 by decide), _, rfl, _, D, oth, rfl, kD5, by omega, fun m hm => by have := (bO m hm).1; omega, fun b2 H6 s6 hb2 kb2 => ?_⟩
  have kbl6 := s6 _ _ kbl
  refine ⟨b2, rfl, ⟨_, SqL.of kb2⟩, fun D2 hD2 => ?_⟩
  refine lc_filtI (K := K) (a := b2) (ns := oth.filter (bitB (bits / 2 ^ Int.toNat 1))) (fun m => !decide (m ∈ bef)) (Nat.le_trans (List.length_filter_le _ _) (by omega)) hD2 (SqL.of kb2) (fun i x G Y B hx sG h => ?_) (fun G7 s7 kD7 => ?_)
  · refine ⟨rfl, _, rfl, _, rfl, .inl ⟨bl, _, rfl, .inl (SqL.of (sG _ _ kbl6)), rfl, flat_ints _, _, rfl, ?_⟩⟩
    exact tst (by rw [inV_ints]; rfl) (fun y => ⟨_, rfl, y⟩) h
  obtain ⟨beh, ebh⟩ : ∃ beh, beh = (oth.filter (bitB (bits / 2 ^ Int.toNat 1))).filter fun m => !decide (m ∈ bef) := ⟨_, rfl⟩
  rw [← ebh] at kD7
  have kbl7 := s7 _ _ kbl6
  have lBf : bef.length ≤ 60 := by rw [ebf]; exact Nat.le_trans (List.length_filter_le _ _) lO
  have lBh : beh.length ≤ 60 := by rw [ebh]; exact Nat.le_trans (List.length_filter_le _ _) (Nat.le_trans (List.length_filter_le _ _) lO)
  have mBf : ∀ m ∈ bef, (0 ≤ m ∧ m < n ∧ m ≠ b) ∧ m ≠ me := fun m h => by rw [ebf] at h; exact bO m (List.mem_filter.mp h).1
  have mBh : ∀ m ∈ beh, ((0 ≤ m ∧ m < n ∧ m ≠ b) ∧ m ≠ me) ∧ m ∉ bef := fun m h => by
    rw [ebh] at h
    have h1 := List.mem_filter.mp h
    exact ⟨bO m (List.mem_filter.mp h1.1).1, by simpa using h1.2⟩
  have ndBf : bef.Nodup := by rw [ebf]; exact ndO.filter _
  have ndBh : beh.Nodup := by rw [ebh]; exact (ndO.filter _).filter _
  have s67 := s6.trans s7
  have s47 := (s4.trans s5).trans s67
  have s37 := s3.trans s47
  have W7 := W.same s37
  obtain ⟨c2, e2, _, atm⟩ := W7.caller m0 m1
  rw [hm] at e2
  cases e2
  refine ⟨_, rfl, _, rfl, L, _, _, _, rfl, rfl, SqL.of W7.at_, atm, ?_⟩
  refine ⟨_, rfl, bl, rfl, ⟨_, SqL.of kbl7⟩, fun D3 hD3 => ?_⟩
  refine lc_dataI (K := K) (a := bl) (ns := bef) (fun _ => true) (fun m => pairD (m, 1)) (by omega) (fun x _ => by simp [pairD, noL, noLs]) hD3 (SqL.of kbl7) (fun i x G Y B hx sG h1 h2 => ?_) (fun G8 zs8 s8 kD8 d8 => ?_)
  · refine ⟨rfl, lc_yes ?_⟩
    exact ⟨_, rfl, by show 2 ≤ sizeLine; decide, fun t ht => h1 rfl (.ref t) _ (same_upd ht) (.tup (SqT.of upd_same) (.cons (.int x) (.cons (.int 1) .nil)))⟩
  rw [show bef.filter (fun _ => true) = bef from List.filter_eq_self.mpr fun _ _ => rfl, ← prs1_D] at d8
  have W8 := W7.same s8
  have D3n : D3 ∉ cs.map (·.nu) := W7.notN hD3
  have hf0 : ∀ m, m ≠ me → cm.f m = 0 := fun m h => by rw [mf]; unfold onF; rw [if_neg h]
  have mcm := List.mem_of_getElem? hm
  have mk := nok cm mcm
  refine ⟨L, D3, n, me.toNat, cs, cm, zs8, prs1 bef, cm.o, by rw [ms]; rfl, rfl, W8, n2, n60, hm, .inl mk, kD8, d8, D3n, ?_, by rw [prs1_fst]; exact ndBf, by unfold prs1; rw [List.length_map]; omega, fun H9 W9 f9 => ?_⟩
  · intro q hq
    unfold prs1 at hq
    obtain ⟨m, hm, rfl⟩ := List.mem_map.mp hq
    have z := mBf m hm
    refine ⟨⟨z.1.1, z.1.2.1⟩, ?_⟩
    show cm.f m ≤ 1
    rw [hf0 m z.2]
    decide
  obtain ⟨c9, ec9⟩ : ∃ c9, c9 = hearC cm (prs1 bef) := ⟨_, rfl⟩
  rw [← ec9] at W9
  have il := (List.getElem?_eq_some_iff.mp hm).1
  have sg : ∀ {c7 : Ca}, (cs.set me.toNat c7)[me.toNat]? = some c7 := List.getElem?_set_self il
  have eo9 : c9.o = cm.o := by rw [ec9]; rfl
  have en9 : c9.nu = cm.nu := by rw [ec9]; rfl
  have ek9 : c9.key = none := by rw [ec9]; exact mk
  have CA9 := W9.all _ c9 sg
  rw [show ((me.toNat : Nat) : Int) = me by omega] at CA9
  have A9 := CA9.at_
  rw [ek9] at A9
  have nusE9 : (cs.set me.toNat c9).map (·.nu) = cs.map (·.nu) := nus_set hm en9
  obtain ⟨c2, e2, _, atm9⟩ := W9.caller m0 m1
  rw [sg] at e2
  cases e2
  have f79 := (Same.frn s8).trans f9
  have f49 := (Same.frn s47).trans f79
  have kah9 := lst_frn ((Same.frn s3).trans f49) kah nah
  have ksv9 := lst_frn f49 ksv svN
  have kbl9 := lst_frn f79 kbl7 ((W.same (s3.trans s4)).notN hbl)
  refine ⟨_, rfl, iteF' rfl ?_⟩
  refine ⟨_, rfl, _, rfl, L, _, _, _, rfl, rfl, SqL.of W9.at_, atm9, c9.o, c9.dx, _, rfl, A9.hp, (A9.no "hear").2, _, rfl, _, rfl, sv, n, g1F b, rfl, ksv9, by omega, n60, fun pt H10 s10 dpt => ?_⟩
  refine ⟨_, rfl, _, rfl, ah, _, rfl, SqL.of (s10 _ _ kah9), fun a1 ha1 => ?_⟩
  rw [cut1]
  have t1s := same_upd (o := .lst (rest.map V.int)) ha1
  refine ⟨a1, _, rfl, .inl ⟨SqL.of upd_same, fun tp htp => ?_⟩⟩
  have t2s := same_upd (o := .tup (rest.map V.int)) htp
  refine ⟨by show 4 ≤ sizeLine; decide, fun u1 hu1 => ?_⟩
  have t3s := same_upd (o := .tup [.str "key", .int 0, .ref pt, .ref tp]) hu1
  have t13 := (t1s.trans t2s).trans t3s
  have s910 := s10.trans t13
  obtain ⟨ys, qu, du⟩ : ∃ ys, SqT K H10 pt ys ∧ DpAll K H10 ys ((sF n (g1F b)).map pairD) := by
    cases dpt with
    | tup h1 h2 => exact ⟨_, h1, h2⟩
  have A10 := A9.same s910
  have W10 := W9.same s910
  have AH := A10
  refine ⟨c9.o, c9.dx, u1, b, _, rfl, A10.hp, (A10.no "_hear_ask").2, (A10.no "_hear_key").2, .inr ⟨_, SqT.of upd_same, c9.o, c9.dx, u1, c9.ro, c9.nu, c9.pl, pt, tp, me, 0, 0, c9.st, .non, .non, rangeI n, msF n c9.f, rest, [], sF n (g1F b), ys, rfl, A10, SqT.of upd_same, sqt_same t13 qu, dps_same t13 _ _ du, sqt_same t3s (SqT.of upd_same), Int.le_refl _, sF_nd, by rw [sF_len]; omega, by omega, fun k dk d l z2 H11 ch hk hd hl AK KK kz => ?_⟩⟩
  obtain ⟨y, ey⟩ : ∃ y : Ky, y = { k := k, dk := dk, d := d, l := l, g := g1F b, ns := rest } := ⟨_, rfl⟩
  obtain ⟨cK, ecK⟩ : ∃ cK : Ca, cK = { c9 with st := "in", key := some y } := ⟨_, rfl⟩
  have CAK : CaAt H11 C CK n me cK := by
    rw [ecK]
    exact ⟨by rw [ey]; exact AK, fun y2 e => by cases e; rw [ey]; exact KK⟩
  have chf : ChgS (foot c9) (upd (upd (upd H10 a1 (.lst (rest.map V.int))) tp (.tup (rest.map V.int))) u1 (.tup [.str "key", .int 0, .ref pt, .ref tp])) H11 := ch.mono fun a ha => by rw [List.mem_singleton.mp ha]; simp [foot]
  have lok : ∀ c2 ∈ cs.set me.toNat c9, l ≠ c2.nu ∧ l ≠ c2.ro := fun c2 m2 => by
    obtain ⟨j, hj⟩ := List.mem_iff_getElem?.mp m2
    have B := (W10.all j c2 hj).at_
    exact ⟨(ne_of_none B.hn hl).symm, (ne_of_none B.hr hl).symm⟩
  have eoK : cK.o = c9.o := by rw [ecK]
  have enK : cK.nu = c9.nu := by rw [ecK]
  have ekK : cK.key = some y := by rw [ecK]
  have W11 := W10.set (c' := cK) (by omega) sg chf (by rw [show ((me.toNat : Nat) : Int) = me by omega]; exact CAK) eoK enK (by rw [ecK]) (fun y2 e2 => by rw [ekK] at e2; cases e2; rw [ey]; exact lok) (fun _ j c2 h2 ne => by
    rcases List.mem_or_eq_of_mem_set (List.mem_of_getElem? h2) with z | z
    · exact nok _ z
    · rw [z]; exact ek9)
  rw [List.set_set] at W11
  have f1011 := W10.frn sg chf
  rw [nusE9] at f1011
  refine ⟨Nat.zero_le _, fun e1 he1 => ?_⟩
  have v1s := same_upd (o := .lst []) he1
  refine ⟨.list [], .list [], .lst (SqL.of (v1s _ _ kz)) .nil, .lst (SqL.of upd_same) .nil, by decide, by decide, _, rfl, iteF' (by decide +kernel) ?_⟩
  have W12 := W11.same v1s
  obtain ⟨c2, e2, CA12, atm12⟩ := W12.caller m0 m1
  rw [sg] at e2
  cases e2
  have A12 := CA12.at_
  rw [ekK] at A12
  have stK : cK.st = "in" := by rw [ecK]
  refine ⟨_, rfl, _, rfl, L, _, _, _, rfl, rfl, SqL.of W12.at_, atm12, cK.o, C, cK.dx, _, _, rfl, A12.hp, S.cl, S.state, caF_stt _ _ _ _ _ _ _ _ _, rfl, _, rfl, iteF' (by rw [stK]; decide +kernel) ?_⟩
  have K12 := CA12.key y ekK
  refine ⟨_, rfl, _, rfl, L, _, _, _, rfl, rfl, SqL.of W12.at_, atm12, cK.o, cK.dx, _, rfl, A12.hp, (A12.no "bears").2, cK.o, cK.dx, me, cK.st, 0, cK.ro, cK.nu, .ref y.k, .non, cK.pl, _, _, [], rfl, A12, .inr ⟨y.k, y.dk, 0, y.d, y.l, _, y.ns, rfl, K12, fun tq S' H13 s13 pS uS dT => ?_⟩⟩
  have eS := pair_eq pS uS
  subst eS
  have yg : y.g = g1F b := by rw [ey]
  have yn : y.ns = rest := by rw [ey]
  rw [yg, yn] at dT
  have f913 := ((Same.frn s910).trans f1011).trans (Same.frn (v1s.trans s13))
  have D2n : D2 ∉ cs.map (·.nu) := (W.same (((s3.trans s4).trans s5).trans s6)).notN hD2
  have kah13 := lst_frn f913 kah9 nah
  have ksv13 := lst_frn f913 ksv9 svN
  have kbl13 := lst_frn f913 kbl9 ((W.same (s3.trans s4)).notN hbl)
  have kbh13 := lst_frn (f79.trans f913) kD7 D2n
  refine ⟨_, rfl, sv, n, g1F b, rfl, ksv13, by omega, n60, fun pt2 H14 s14 dpt2 => ?_⟩
  refine ⟨_, rfl, _, rfl, ah, _, rfl, SqL.of (s14 _ _ kah13), fun a2 ha2 => ?_⟩
  rw [cut1]
  have w1s := same_upd (o := .lst (rest.map V.int)) ha2
  refine ⟨a2, _, rfl, .inl ⟨SqL.of upd_same, fun tp2 htp2 => ?_⟩⟩
  have w2s := same_upd (o := .tup (rest.map V.int)) htp2
  refine ⟨by show 3 ≤ sizeLine; decide, fun u2 hu2 => ?_⟩
  have w3s := same_upd (o := .tup [.int 0, .ref pt2, .ref tp2]) hu2
  have w13 := (w1s.trans w2s).trans w3s
  have shp := shaped_told 0 (sF n (g1F b)) rest
  refine ⟨toldD 0 (sF n (g1F b)) rest, toldD 0 (sF n (g1F b)) rest, dp_same (s14.trans w13) _ _ dT, .tup (SqT.of upd_same) (.cons (.int 0) (.cons (dp_same w13 _ _ dpt2) (.cons (dp_tupI (SqT.of (w3s _ _ upd_same))) .nil))), shp, shp, _, rfl, iteF' (eq_bl (eqv_shaped shp)) ?_⟩
  obtain ⟨H15, e15⟩ : ∃ H15, H15 = upd (upd (upd H14 a2 (.lst (rest.map V.int))) tp2 (.tup (rest.map V.int))) u2 (.tup [.int 0, .ref pt2, .ref tp2]) := ⟨_, rfl⟩
  have s15 : Same H13 H15 := by rw [e15]; exact s14.trans w13
  rw [← e15]
  clear e15 w13 w3s w2s w1s
  have kbh15 := s15 _ _ kbh13
  have W15 := W12.same (s13.trans s15)
  refine ⟨_, rfl, D2, rfl, ⟨_, SqL.of kbh15⟩, fun D4 hD4 => ?_⟩
  refine lc_dataI (K := K) (a := D2) (ns := beh) (fun _ => true) (fun m => pairD (m, 1)) (by omega) (fun x _ => by simp [pairD, noL, noLs]) hD4 (SqL.of kbh15) (fun i x G Y B hx sG h1 h2 => ?_) (fun G16 zs16 s16 kD16 d16 => ?_)
  · refine ⟨rfl, lc_yes ?_⟩
    exact ⟨_, rfl, by show 2 ≤ sizeLine; decide, fun t ht => h1 rfl (.ref t) _ (same_upd ht) (.tup (SqT.of upd_same) (.cons (.int x) (.cons (.int 1) .nil)))⟩
  rw [show beh.filter (fun _ => true) = beh from List.filter_eq_self.mpr fun _ _ => rfl, ← prs1_D] at d16
  have W16 := W15.same s16
  have D4n : D4 ∉ cs.map (·.nu) := by
    have := W15.notN hD4
    rwa [nus_set hm (show cK.nu = cm.nu by rw [enK, en9])] at this
  refine ⟨_, rfl, _, rfl, _, _, rfl, rfl, b0, _, _, rfl, rfl, rfl, _, rfl, ?_⟩
  rw [dec_ii]
  have enm : cK.nu = cm.nu := by rw [enK, en9]
  have nusK : (cs.set me.toNat cK).map (·.nu) = cs.map (·.nu) := nus_set hm enm
  have rosK : (cs.set me.toNat cK).map (·.ro) = cs.map (·.ro) := by
    rw [List.map_set, show cK.ro = cm.ro by rw [ecK, ec9]; rfl]
    exact set_same (by rw [List.getElem?_map, hm]; rfl)
  have hbK : (cs.set me.toNat cK)[b.toNat]? = some cb := by rw [List.getElem?_set_ne (by omega)]; exact hb
  have D4r : D4 ∉ (cs.set me.toNat cK).map (·.ro) := W15.notR hD4
  have D4k := W15.kls hD4
  have fK : cK.f = hF (prs1 bef) (onF me) := by rw [ecK, ec9, ← mf]; rfl
  refine iteJ (fun H => ∃ (P : List (Int × Int)) (zs : List V) (cs3 : List Ca), WC H C CK L n cs3 ∧ cs3[me.toNat]? = some cK ∧ FrN (D4 :: cs.map (·.nu)) G16 H ∧ H D4 = some (.lst zs) ∧ DpAll K H zs (P.map pairD) ∧ cs3.map (·.nu) = cs.map (·.nu) ∧ cs3.map (·.ro) = cs.map (·.ro) ∧ (P = prs1 beh ∨ P = prs1 beh ++ [(b, 2)])) (fun cB J => ?_) (fun cB => ?_) ?_
  · refine ⟨_, rfl, _, rfl, L, n, b, 2, _, cb, rfl, W16, n2, n60, b0, b1, hbK, nok cb (List.mem_of_getElem? hb), by rw [bf]; rfl, fun H17 W17 f17 => ?_⟩
    refine ⟨_, rfl, iteF' rfl ?_⟩
    rw [nusK] at f17
    have kD17 := lst_frn f17 kD16 D4n
    refine ⟨_, rfl, .inl ⟨rfl, _, SqL.of kD17⟩, _, rfl, by show 2 ≤ sizeLine; decide, fun t ht => ?_⟩
    have st := same_upd (o := .tup [.int b, .int 2]) ht
    have kDt := st _ _ kD17
    refine ⟨D4, _, _, rfl, rfl, kDt, ?_, ?_⟩
    · have := dps_len d16
      unfold prs1 at this
      rw [List.length_map, List.length_map] at this
      exact Nat.lt_of_lt_of_le (show zs16.length < 100 by omega) (by decide)
    have n3 : ((cs.set me.toNat cK).set b.toNat (askedC cb b)).map (·.nu) = cs.map (·.nu) := (nus_set (c' := askedC cb b) hbK rfl).trans nusK
    have r3 : ((cs.set me.toNat cK).set b.toNat (askedC cb b)).map (·.ro) = (cs.set me.toNat cK).map (·.ro) := by
      rw [List.map_set]
      exact set_same (by rw [List.getElem?_map, hbK]; rfl)
    have nlt : noLs ((prs1 beh).map pairD) = true := noLs_pairs _
    refine J _ ⟨prs1 beh ++ [(b, 2)], _, _, (W17.same st).out kDt (ne_of_none W15.at_ hD4).symm (by rw [n3]; exact D4n) (by rw [r3]; exact D4r) (fun c mc y' ey' => ?_), ?_, (f17.mono fun a ha => List.mem_cons_of_mem _ ha).trans ((Same.frn st).trans (frn_lst kDt (List.mem_cons_self ..))), upd_same, ?_, n3, r3.trans rosK, .inr rfl⟩
    · rcases List.mem_or_eq_of_mem_set mc with z | z
      · exact D4k c z y' ey'
      · rw [z] at ey'
        have : cb.key = some y' := ey'
        rw [nok cb (List.mem_of_getElem? hb)] at this
        cases this
    · rw [List.getElem?_set_ne (by omega)]
      exact sg
    · rw [List.map_append]
      exact dps_app (dps_chg ⟨_, kDt⟩ Chg.self _ _ nlt (dps_same st _ _ (dps_frn f17 _ _ nlt d16))) (.cons (.tup (SqT.of (by rw [upd_ne (ne_of_none kD17 ht).symm]; exact upd_same)) (.cons (.int b) (.cons (.int 2) .nil))) .nil)
  · exact ⟨prs1 beh, zs16, _, W16, sg, Same.frn (Same.refl _), kD16, d16, nusK, rosK, .inl rfl⟩
  rintro H17 ⟨P, zs, cs3, W17, hK3, f17, kD17, dD17, nus3, ros3, hP⟩
  obtain ⟨c2, e2, _, atm17⟩ := W17.caller m0 m1
  rw [hK3] at e2
  cases e2
  have fK0 : ∀ m, m ∉ bef → m ≠ me → cK.f m = 0 := fun m h1 h2 => by rw [fK, hF_not (by rw [prs1_fst]; exact h1)]; unfold onF; rw [if_neg h2]
  have nbf : b ∉ bef := fun h => (mBf b h).1.2.2 rfl
  have nbh : b ∉ beh := fun h => (mBh b h).1.1.2.2 rfl
  have Pf : P.map (·.1) = beh ∨ P.map (·.1) = beh ++ [b] := by
    rcases hP with e | e
    · exact .inl (by rw [e, prs1_fst])
    · exact .inr (by rw [e, List.map_append, prs1_fst]; rfl)
  have ndP : (P.map (·.1)).Nodup := by
    rcases Pf with e | e
    · rw [e]; exact ndBh
    · rw [e, List.nodup_append]
      exact ⟨ndBh, by simp, fun x hx y hy e => by rw [List.mem_singleton.mp hy] at e; rw [e] at hx; exact nbh hx⟩
  have lP : P.length ≤ 61 := by
    have e0 : P.length = (P.map (·.1)).length := (List.length_map ..).symm
    rcases Pf with e | e
    · rw [e0, e]; omega
    · rw [e0, e, List.length_append, List.length_singleton]; omega
  have memP : ∀ q ∈ P, (q.1 ∈ beh ∧ q.2 = 1) ∨ (q.1 = b ∧ q.2 = 2) := fun q hq => by
    have one : q ∈ prs1 beh → q.1 ∈ beh ∧ q.2 = 1 := fun h => by
      unfold prs1 at h
      obtain ⟨m, hm, rfl⟩ := List.mem_map.mp h
      exact ⟨hm, rfl⟩
    rcases hP with e | e
    · rw [e] at hq; exact .inl (one hq)
    · rw [e] at hq
      rcases List.mem_append.mp hq with z | z
      · exact .inl (one z)
      · rw [List.mem_singleton.mp z]; exact .inr ⟨rfl, rfl⟩
  refine ⟨_, rfl, _, rfl, L, _, _, _, rfl, rfl, SqL.of W17.at_, atm17, _, rfl, L, D4, n, me.toNat, cs3, cK, zs, P, cK.o, by rw [stK]; rfl, rfl, W17, n2, n60, hK3, .inr stK, kD17, dD17, by rw [nus3]; exact D4n, fun q hq => ?_, ndP, by omega, fun H18 W18 f18 => ?_⟩
  · rcases memP q hq with ⟨h, e⟩ | ⟨h, e⟩
    · have z := mBh _ h
      exact ⟨⟨z.1.1.1, z.1.1.2.1⟩, by rw [e, fK0 _ z.2 z.1.2]; decide⟩
    · rw [h, e]
      exact ⟨⟨b0, b1⟩, by rw [fK0 _ nbf mb.symm]; decide⟩
  refine ⟨_, rfl, iteF' rfl ?_⟩
  rw [nus3] at f18
  obtain ⟨c8, ec8⟩ : ∃ c, c = hearC cK P := ⟨_, rfl⟩
  rw [← ec8] at W18
  have il3 := (List.getElem?_eq_some_iff.mp hK3).1
  have sg3 : ∀ {c7 : Ca}, (cs3.set me.toNat c7)[me.toNat]? = some c7 := List.getElem?_set_self il3
  have ek8 : c8.key = some y := by rw [ec8]; exact ekK
  have st8 : c8.st = "in" := by rw [ec8]; exact stK
  have nus4 : (cs3.set me.toNat c8).map (·.nu) = cs.map (·.nu) := (nus_set hK3 (by rw [ec8]; rfl)).trans nus3
  have ros4 : (cs3.set me.toNat c8).map (·.ro) = cs.map (·.ro) := by
    rw [List.map_set, show c8.ro = cK.ro by rw [ec8]; rfl]
    exact (set_same (by rw [List.getElem?_map, hK3]; rfl)).trans ros3
  have kone : ∀ c ∈ cs3.set me.toNat c8, ∀ y', c.key = some y' → y' = y := fun c mc y' ey' => by
    obtain ⟨j, hj⟩ := List.mem_iff_getElem?.mp mc
    have e := W18.one j me.toNat c c8 hj sg3 (by rw [ey']; exact fun z => nomatch z) (by rw [ek8]; exact fun z => nomatch z)
    rw [e, sg3] at hj
    cases hj
    rw [ek8] at ey'
    exact (Option.some.inj ey').symm
  have f1618 := f17.trans (f18.mono fun a ha => List.mem_cons_of_mem _ ha)
  have s1316 := s15.trans s16
  have no4 : ∀ {a : Addr} {xs : List V}, H15 a = some (.lst xs) → a ∉ cs.map (·.nu) → a ∉ D4 :: cs.map (·.nu) := fun e na m => by
    rcases List.mem_cons.mp m with z | z
    · rw [z, hD4] at e; cases e
    · exact na z
  have up : ∀ {a : Addr} {xs : List V}, H13 a = some (.lst xs) → a ∉ cs.map (·.nu) → H18 a = some (.lst xs) := fun e na => lst_frn f1618 (s1316 _ _ e) (no4 (s15 _ _ e) na)
  have kah18 := up kah13 nah
  have ksv18 := up ksv13 svN
  have kbl18 := up kbl13 ((W.same (s3.trans s4)).notN hbl)
  have kD18 := lst_frn f18 kD17 D4n
  have dD18 := dps_frn f18 _ _ (noLs_pairs P) dD17
  refine ⟨_, rfl, _, rfl, sv, _, _, me.toNat, rfl, rfl, ksv18, ?_, ?_⟩
  · rw [List.length_map, msF_len, show me = ((me.toNat : Nat) : Int) by omega]
    exact ix_n (by omega)
  rw [← List.map_set, msF_set m0]
  obtain ⟨g2, eg2⟩ : ∃ g2, g2 = updI (g1F b) me 1 := ⟨_, rfl⟩
  rw [← eg2]
  have yl : y.l = l := by rw [ey]
  have svl : sv ≠ y.l := by rw [yl]; exact ne_of_none (s910 _ _ ksv9) hl
  have W19 := W18.out (o := .lst ((msF n g2).map V.int)) ksv18 (ne_of_none (s1 _ _ W.at_) hsv).symm (by rw [nus4]; exact svN) (by rw [ros4]; exact (W.same s1).notR hsv) (fun c mc y' ey' => by rw [kone c mc y' ey']; exact svl)
  have svo : ∀ {a : Addr} {xs : List V}, H18 a = some (.lst xs) → a ≠ sv → upd H18 sv (.lst ((msF n g2).map V.int)) a = some (.lst xs) := fun e ne => (upd_ne ne).trans e
  have kah19 := svo kah18 (ne_of_none (s1 _ _ kah) hsv)
  have kbl19 := svo kbl18 (ne_of_none (s4 _ _ ksv) hbl).symm
  have kD19 := svo kD18 (ne_of_none (s15 _ _ ksv13) hD4).symm
  have dD19 := dps_chg ⟨_, ksv18⟩ (Chg.self (o := .lst ((msF n g2).map V.int))) _ _ (noLs_pairs P) dD18
  have ksv19 : upd H18 sv (.lst ((msF n g2).map V.int)) sv = some (.lst ((msF n g2).map V.int)) := upd_same
  obtain ⟨H19, e19⟩ : ∃ H19, H19 = upd H18 sv (.lst ((msF n g2).map V.int)) := ⟨_, rfl⟩
  rw [← e19] at W19 kah19 kbl19 kD19 dD19 ksv19
  rw [← e19]
  clear e19 svo
  refine ⟨_, rfl, _, rfl, D4, rfl, ⟨_, SqL.of kD19⟩, fun D5 hD5 => ?_⟩
  refine lc_list (K := K) (a := D4) (xs := zs) (fun i G => Same H19 G ∧ G D5 = some (.lst (((P.map (·.1)).take i).map V.int))) ⟨same_upd hD5, upd_same⟩ (fun i G _ h => SqL.of (h.1 _ _ kD19)) ?_ ?_
  · rintro i x G hx ⟨sG, kD⟩
    obtain ⟨pr, er, dp⟩ := dps_at' (dps_same sG _ _ dD19) hx
    obtain ⟨t, v1, v2, rfl, qt, d1, d2⟩ := two_dp dp
    cases d1
    cases d2
    have li := (List.getElem?_eq_some_iff.mp er).1
    refine ⟨t, _, rfl, qt, rfl, _, _, rfl, _, _, rfl, rfl, rfl, lc_yes ?_⟩
    refine ⟨_, rfl, _, kD, ?_, fun a o e => ?_, ?_⟩
    · rw [List.length_map]
      exact Nat.lt_of_lt_of_le (show _ < 200 from Nat.lt_of_le_of_lt (List.length_take_le _ _) (by omega)) (by decide)
    · rw [upd_ne (ne_of_none e hD5)]
      exact sG _ _ e
    · rw [List.take_succ, List.getElem?_map, er, List.map_append]
      exact upd_same
  rintro G20 ⟨s20, kD20⟩
  have lz : zs.length = P.length := by rw [dps_len dD19, List.length_map]
  rw [List.take_of_length_le (by rw [List.length_map]; omega)] at kD20
  refine ⟨bl, D5, _, _, rfl, rfl, s20 _ _ kbl19, kD20, ?_, fun sl hsl => ?_⟩
  · rw [List.length_map, List.length_map, List.length_map]
    exact Nat.le_trans (show _ ≤ 1000 by omega) (by decide)
  rw [← List.map_append]
  obtain ⟨sm, esm⟩ : ∃ sm, sm = bef ++ P.map (·.1) := ⟨_, rfl⟩
  rw [← esm]
  have s21 := same_upd (o := .lst (sm.map V.int)) hsl
  have ksl21 : upd G20 sl (.lst (sm.map V.int)) sl = some (.lst (sm.map V.int)) := upd_same
  obtain ⟨G21, e21⟩ : ∃ G, G = upd G20 sl (.lst (sm.map V.int)) := ⟨_, rfl⟩
  rw [← e21] at s21 ksl21
  rw [← e21]
  clear e21
  refine ⟨_, rfl, _, rfl, ah, _, rfl, SqL.of ((s20.trans s21) _ _ kah19), fun a3 ha3 => ?_⟩
  rw [cut1]
  have s22 := same_upd (o := .lst (rest.map V.int)) ha3
  have ka3 : upd G21 a3 (.lst (rest.map V.int)) a3 = some (.lst (rest.map V.int)) := upd_same
  have s1922 := (s20.trans s21).trans s22
  have eN4 : (((((cs3.set me.toNat c8).map (·.o)).map V.ref).length : Nat) : Int) = n := by rw [List.length_map, List.length_map, W18.len]; omega
  refine ⟨_, rfl, L, _, rfl, .inl (SqL.of (W19.same s1922).at_), ?_⟩
  rw [eN4]
  refine ⟨_, rfl, _, rfl, n, me, sl, sm, rfl, s22 _ _ ksl21, m0, m1, n60, fun rl G23 s23 hrl krl => ⟨rl, rfl, ⟨_, SqL.of krl⟩, fun D6 hD6 => ?_⟩⟩
  have kah23 := (s1922.trans s23) _ _ kah19
  obtain ⟨al, eal⟩ : ∃ al, al = me :: rest := ⟨_, rfl⟩
  rw [← eal] at kah23
  have lrl := lineUp_len (p := fun m => decide (m ∈ sm)) m0 m1 n60
  refine lc_filtI (K := K) (a := rl) (ns := rndF n me fun m => decide (m ∈ sm)) (fun m => !decide (m ∈ al)) (by omega) hD6 (SqL.of krl) (fun i x G Y B hx sG h => ?_) (fun G24 s24 kD24 => ?_)
  · refine ⟨rfl, _, rfl, _, rfl, .inl ⟨ah, _, rfl, .inl (SqL.of (sG _ _ kah23)), rfl, flat_ints _, _, rfl, ?_⟩⟩
    exact tst (by rw [inV_ints]; rfl) (fun y => ⟨_, rfl, y⟩) h
  have ka324 := (s23.trans s24) _ _ ka3
  refine ⟨a3, D6, _, _, rfl, rfl, ka324, kD24, ?_, fun ll hll => ?_⟩
  · rw [List.length_map, List.length_map]
    have := List.length_filter_le (fun m => !decide (m ∈ al)) (rndF n me fun m => decide (m ∈ sm))
    exact Nat.le_trans (show _ ≤ 1000 by omega) (by decide)
  rw [← List.map_append]
  obtain ⟨LN, eLN⟩ : ∃ LN, LN = rest ++ (rndF n me fun m => decide (m ∈ sm)).filter fun m => !decide (m ∈ al) := ⟨_, rfl⟩
  rw [← eLN]
  have s25 := same_upd (o := .lst (LN.map V.int)) hll
  have kll25 : upd G24 ll (.lst (LN.map V.int)) ll = some (.lst (LN.map V.int)) := upd_same
  have s1925 := ((s1922.trans s23).trans s24).trans s25
  have llN : ll ∉ cs.map (·.nu) := by
    have := (W19.same ((s1922.trans s23).trans s24)).notN hll
    rwa [nus4] at this
  obtain ⟨G25, e25⟩ : ∃ G, G = upd G24 ll (.lst (LN.map V.int)) := ⟨_, rfl⟩
  rw [← e25] at s1925 kll25
  rw [← e25]
  clear e25
  refine ⟨_, rfl, Nat.zero_le _, fun e5 he5 => ?_⟩
  have s26 := same_upd (o := .lst []) he5
  refine ⟨.list (LN.map PyData.int), .list [], dp_ints (s26 _ _ kll25), .lst (SqL.of upd_same) .nil, shaped_ints _, by decide, _, rfl, ?_⟩
  rw [eqv_nilI]
  have kll := s26 _ _ kll25
  have s1926 := s1925.trans s26
  have W26 := W19.same s1926
  have ksv26 := s1926 _ _ ksv19
  obtain ⟨G26, e26⟩ : ∃ G, G = upd G25 e5 (.lst []) := ⟨_, rfl⟩
  rw [← e26] at s1926 W26 ksv26 kll
  rw [← e26]
  clear e26 s26
  have sm_mem : ∀ m, m ≠ me → (decide (g2 m < c8.f m) = decide (m ∈ sm)) := fun m ne => by
    refine decide_eq_decide.mpr ?_
    rw [esm, List.mem_append]
    have g2m : g2 m = if m = b then 1 else 0 := by
      rw [eg2]
      unfold updI
      rw [if_neg ne]
      unfold g1F updI
      rfl
    have f8 : c8.f = hF P cK.f := by rw [ec8]; rfl
    rw [f8, g2m]
    by_cases mP : m ∈ P.map (·.1)
    · obtain ⟨q, mq, eq⟩ := List.mem_map.mp mP
      have hv := hF_mem (f := cK.f) ndP (show (q.1, q.2) ∈ P from mq)
      rw [eq] at hv
      rw [hv]
      rcases memP q mq with ⟨h, e⟩ | ⟨h, e⟩
      · rw [eq] at h
        rw [e, if_neg (mBh m h).1.1.2.2]
        simp [mP]
      · rw [eq] at h
        rw [e, if_pos h]
        simp [mP]
    · rw [hF_not mP]
      by_cases mf2 : m ∈ bef
      · rw [fK, hF_mem (l := prs1 bef) (by rw [prs1_fst]; exact ndBf) (show (m, 1) ∈ prs1 bef from List.mem_map.mpr ⟨m, mf2, rfl⟩), if_neg (mBf m mf2).1.2.2]
        simp [mf2]
      · rw [fK0 m mf2 ne]
        simp only [mf2, mP, or_self, iff_false]
        split <;> decide
  have nsm : me ∉ sm := by
    rw [esm, List.mem_append]
    rintro (h | h)
    · exact (mBf me h).2 rfl
    · rcases Pf with e | e
      · rw [e] at h; exact (mBh me h).1.2 rfl
      · rw [e] at h
        rcases List.mem_append.mp h with z | z
        · exact (mBh me z).1.2 rfl
        · exact mb (List.mem_singleton.mp z)
  have g2me : g2 me = 1 := by rw [eg2]; unfold updI; rw [if_pos rfl]
  have f8me : c8.f me = 1 := by
    have f8 : c8.f = hF P cK.f := by rw [ec8]; rfl
    rw [f8, hF_not (fun h => nsm (by rw [esm]; exact List.mem_append.mpr (.inr h))), fK, hF_not (fun h => nsm (by rw [prs1_fst] at h; rw [esm]; exact List.mem_append.mpr (.inl h)))]
    unfold onF
    rw [if_pos rfl]
  have srvE : srvS (sF n y.g) me ((msF n c8.f).getD me.toNat 0) = sF n g2 := by rw [msF_get m0 m1, f8me, srv_F, yg, eg2]
  have lnE : lineUp me (rangeI n) (msF n c8.f) (sF n g2) y.ns = LN := by
    rw [yn, lineUp_F m0 m1 (fun m h => ⟨(bR m h).1, (bR m h).2.1⟩), eLN]
    unfold rndF
    rw [List.filter_filter]
    refine congrArg _ (List.filter_congr fun m hm => ?_)
    by_cases e : m = me
    · rw [e, g2me, f8me, eal]
      simp
    · rw [sm_mem m e, eal]
      simp [e, Bool.and_comm]
  have nLN : ∀ t r, LN = t :: r → t ≠ me := fun t r h e => by
    have : me ∈ LN := by rw [h, e]; exact List.mem_cons_self ..
    rw [eLN, List.mem_append] at this
    rcases this with z | z
    · exact (bR me z).2.2 rfl
    · have := (List.mem_filter.mp z).2
      rw [eal] at this
      simp at this
  obtain ⟨c2, e2, CA26, atm26⟩ := W26.caller m0 m1
  rw [sg3] at e2
  cases e2
  have nusW : (cs3.set me.toNat c8).map (·.nu) = cs.map (·.nu) := nus4
  have dpl : y.d ≠ c8.pl := fun e => by
    have A0 := CA26.at_
    have h1 := (CA26.key y ek8).hd
    rw [e, A0.hpl] at h1
    have h2 := Option.some.inj h1
    injection h2 with h3
    have h4 := congrArg List.length h3
    rw [List.length_map, sF_len, List.length_nil] at h4
    omega
  have mbS : me ∈ (sF n y.g).map (·.1) := by rw [sF_fst]; exact rangeI_mem.mpr ⟨m0, m1⟩
  have lms : ((msF n c8.f).length : Int) = n := by rw [msF_len]; omega
  have ylok : ∀ c ∈ cs3.set me.toNat c8, ∀ y', c.key = some y' → ∀ c' ∈ cs3.set me.toNat c8, y'.l ≠ c'.nu ∧ y'.l ≠ c'.ro := W26.kl
  have others : ∀ (j : Nat) c2, (cs3.set me.toNat c8)[j]? = some c2 → j ≠ me.toNat → c2.key = none := fun j c2 h2 ne => by
    cases e2 : c2.key with
    | none => rfl
    | some y2 => exact absurd (W26.one j me.toNat c2 c8 h2 sg3 (by rw [e2]; exact fun z => nomatch z) (by rw [ek8]; exact fun z => nomatch z)) ne
  by_cases cL : LN = []
  · refine iteT' (decide_eq_true cL) ?_
    have A0 := CA26.at_
    rw [ek8] at A0
    have KA := CA26.key y ek8
    refine ⟨_, rfl, _, rfl, L, _, _, _, rfl, rfl, SqL.of W26.at_, atm26, c8.o, c8.dx, _, rfl, A0.hp, (A0.no "leave").2, c8.o, c8.dx, y.k, y.dk, c8.ro, c8.nu, c8.pl, y.d, y.l, me, 0, 0, c8.st, .non, rangeI n, msF n c8.f, y.ns, [], sF n y.g, rfl, A0, KA, dpl, mbS, m0, by omega, rangeI_nd n, fun m h => by have := rangeI_mem.mp h; omega, by rw [rangeI_len]; omega, by rw [yn]; omega, ?_⟩
    rw [srvE, lnE]
    refine ⟨fun _ z2 l' H7 ch hl' A7 K7 kz => ?_, fun rest h => absurd rfl (nLN _ _ h), fun t rest h => (by rw [cL] at h; cases h)⟩
    have chf := ch.mono (foot_key ek8)
    obtain ⟨y', ey'⟩ : ∃ y' : Ky, y' = { k := y.k, dk := y.dk, d := y.d, l := l', g := g2, ns := [] } := ⟨_, rfl⟩
    have CA7 : CaAt H7 C CK n me { c8 with st := "out", key := some y' } := ⟨by rw [ey']; exact A7, fun y2 e => by cases e; rw [ey']; exact K7⟩
    have lok' : ∀ c2 ∈ cs3.set me.toNat c8, l' ≠ c2.nu ∧ l' ≠ c2.ro := fun c2 m2 => by
      obtain ⟨j, hj⟩ := List.mem_iff_getElem?.mp m2
      have B := (W26.all j c2 hj).at_
      exact ⟨(ne_of_none B.hn hl').symm, (ne_of_none B.hr hl').symm⟩
    have W7 := W26.set (c' := { c8 with st := "out", key := some y' }) (by omega) sg3 chf (by rw [show ((me.toNat : Nat) : Int) = me by omega]; exact CA7) rfl rfl rfl (fun y2 e => by cases e; rw [ey']; exact lok') (fun _ => others)
    rw [List.set_set] at W7
    have f7 := W26.frn sg3 chf
    rw [nus4] at f7
    have ksv7 := lst_frn f7 ksv26 svN
    refine ⟨Nat.zero_le _, fun e2 he2 => ?_⟩
    have t1s := same_upd (o := .lst []) he2
    refine ⟨.list [], .list [], .lst (SqL.of (t1s _ _ kz)) .nil, .lst (SqL.of upd_same) .nil, by decide, by decide, ?_⟩
    refine ⟨_, rfl, iteT' (by decide +kernel) ?_⟩
    have W8 := W7.same t1s
    obtain ⟨c2, e2, CA8, atz⟩ := W8.caller m0 m1
    rw [sg3] at e2
    cases e2
    have A8 := CA8.at_
    have K8 := CA8.key y' rfl
    refine ⟨_, rfl, _, rfl, L, _, _, _, rfl, rfl, SqL.of W8.at_, atz, c8.o, c8.dx, _, rfl, A8.hp, (A8.no "bears").2, c8.o, c8.dx, me, "out", 0, c8.ro, c8.nu, .ref y'.k, .non, c8.pl, _, _, [], rfl, A8, .inr ⟨y'.k, y'.dk, 0, y'.d, y'.l, _, _, rfl, K8, fun tq S' H9 s9 pS uS dT => ?_⟩⟩
    have eS := pair_eq pS uS
    subst eS
    rw [show y'.g = g2 by rw [ey'], show y'.ns = [] by rw [ey']] at dT
    refine ⟨_, rfl, sv, n, g2, rfl, (t1s.trans s9) _ _ ksv7, by omega, n60, fun pt3 G27 s27 dpt3 => ?_⟩
    refine ⟨Nat.zero_le _, fun e3 he3 => ?_⟩
    have t3s := same_upd (o := .tup []) he3
    refine ⟨by show 3 ≤ sizeLine; decide, fun u7 hu7 => ?_⟩
    have t4s := same_upd (o := .tup [.int 0, .ref pt3, .ref e3]) hu7
    have t34 := t3s.trans t4s
    have shp3 := shaped_told 0 (sF n g2) []
    refine ⟨toldD 0 (sF n g2) [], toldD 0 (sF n g2) [], dp_same (s27.trans t34) _ _ dT, .tup (SqT.of upd_same) (.cons (.int 0) (.cons (dp_same t34 _ _ dpt3) (.cons (.tup (SqT.of (t4s _ _ upd_same)) .nil) .nil))), shp3, shp3, ?_⟩
    rw [eqv_shaped shp3]
    exact fin _
  · refine iteF' (decide_eq_false cL) ?_
    rcases LN with _ | ⟨t, rr⟩
    · exact absurd rfl cL
    have lrr : rr.length ≤ 500 := by
      have l1 := congrArg List.length eLN
      rw [List.length_cons, List.length_append] at l1
      have := List.length_filter_le (fun m => !decide (m ∈ al)) (rndF n me fun m => decide (m ∈ sm))
      omega
    refine ⟨_, rfl, ll, _, _, .int t, rfl, rfl, SqL.of kll, atI_nat (j := 0) rfl, _, rfl, sv, n, g2, rfl, ksv26, by omega, n60, fun pt3 G27 s27 dpt3 => ?_⟩
    refine ⟨_, rfl, _, rfl, ll, _, rfl, SqL.of (s27 _ _ kll), fun a5 ha5 => ?_⟩
    rw [cut1]
    have v1s := same_upd (o := .lst (rr.map V.int)) ha5
    refine ⟨a5, _, rfl, .inl ⟨SqL.of upd_same, fun tp3 htp3 => ?_⟩⟩
    have v2s := same_upd (o := .tup (rr.map V.int)) htp3
    refine ⟨by show 4 ≤ sizeLine; decide, fun u3 hu3 => ?_⟩
    have v3s := same_upd (o := .tup [.str "key", .int 0, .ref pt3, .ref tp3]) hu3
    refine ⟨by show 2 ≤ sizeLine; decide, fun u4 hu4 => ?_⟩
    have v4s := same_upd (o := .tup [.int t, .ref u3]) hu4
    refine ⟨by show 1 ≤ sizeLine; decide, fun u5 hu5 => ?_⟩
    have v5s := same_upd (o := .lst [.ref u4]) hu5
    have v35 := (v3s.trans v4s).trans v5s
    have v15 := (v1s.trans v2s).trans v35
    have d28 := dp_same v15 _ _ dpt3
    have due1 : Dp K (upd (upd (upd (upd (upd G27 a5 (.lst (rr.map V.int))) tp3 (.tup (rr.map V.int))) u3 (.tup [.str "key", .int 0, .ref pt3, .ref tp3])) u4 (.tup [.int t, .ref u3])) u5 (.lst [.ref u4])) (.ref u4) (toD (keyD 0 (sF n g2) rr) t) := .tup (SqT.of (v5s _ _ upd_same)) (.cons (.int t) (.cons (.tup (SqT.of ((v4s.trans v5s) _ _ upd_same)) (.cons (.str _) (.cons (.int _) (.cons d28 (.cons (dp_tupI (SqT.of (v35 _ _ upd_same))) .nil))))) .nil))
    have ku5 : (upd (upd (upd (upd (upd G27 a5 (.lst (rr.map V.int))) tp3 (.tup (rr.map V.int))) u3 (.tup [.str "key", .int 0, .ref pt3, .ref tp3])) u4 (.tup [.int t, .ref u3])) u5 (.lst [.ref u4])) u5 = some (.lst [.ref u4]) := upd_same
    have s2628 := s27.trans v15
    have W28 := W26.same s2628
    have u5N : u5 ∉ cs.map (·.nu) := by
      have := (W26.same (s27.trans (((v1s.trans v2s).trans v3s).trans v4s))).notN hu5
      rwa [nus4] at this
    obtain ⟨G28, e28⟩ : ∃ G, G = (upd (upd (upd (upd (upd G27 a5 (.lst (rr.map V.int))) tp3 (.tup (rr.map V.int))) u3 (.tup [.str "key", .int 0, .ref pt3, .ref tp3])) u4 (.tup [.int t, .ref u3])) u5 (.lst [.ref u4])) := ⟨_, rfl⟩
    rw [← e28] at due1 ku5 W28
    rw [← e28]
    clear e28 d28 v15 v35 v5s v4s v3s v2s v1s s2628
    obtain ⟨c2, e2, CA28, atm28⟩ := W28.caller m0 m1
    rw [sg3] at e2
    cases e2
    have A0 := CA28.at_
    rw [ek8] at A0
    have KA := CA28.key y ek8
    refine ⟨_, rfl, _, rfl, L, _, _, _, rfl, rfl, SqL.of W28.at_, atm28, c8.o, c8.dx, _, rfl, A0.hp, (A0.no "leave").2, c8.o, c8.dx, y.k, y.dk, c8.ro, c8.nu, c8.pl, y.d, y.l, me, 0, 0, c8.st, .non, rangeI n, msF n c8.f, y.ns, [], sF n y.g, rfl, A0, KA, dpl, mbS, m0, by omega, rangeI_nd n, fun m h => by have := rangeI_mem.mp h; omega, by rw [rangeI_len]; omega, by rw [yn]; omega, ?_⟩
    rw [srvE, lnE]
    refine ⟨fun h => (by cases h), fun rest h => absurd rfl (nLN _ _ h), fun t' rest' e ne z3 zs3 S2 HD chD AD pS2 uS2 kz3 dz3 => ?_⟩
    have e1 : t' = t := by injection e with h _; exact h.symm
    have e2 : rest' = rr := by injection e with _ h; exact h.symm
    subst e1
    subst e2
    have eS2 := pair_eq pS2 uS2
    subst eS2
    have chfD := chD.mono (foot_key ek8)
    have CAD : CaAt HD C CK n me { c8 with st := "out", key := none } := ⟨AD, fun y2 e => by cases e⟩
    have WD := W28.set (c' := { c8 with st := "out", key := none }) (by omega) sg3 chfD (by rw [show ((me.toNat : Nat) : Int) = me by omega]; exact CAD) rfl rfl rfl (fun y2 e => by cases e) (fun nk => absurd rfl nk)
    rw [List.set_set] at WD
    have fD := W28.frn sg3 chfD
    rw [nus4] at fD
    have ku5D := lst_frn fD ku5 u5N
    have dueD := dp_frn fD _ _ (noL_to (noL_key _ _ _) _) due1
    have shp2 : SeqAt.shaped (.list [toD (keyD 0 (sF n g2) rest') t']) = true := shaped_tos (lay_key 0 (sF n g2) rest') (deep_key _ _ _) [t']
    refine ⟨_, rfl, .list [toD (keyD 0 (sF n g2) rest') t'], .list [toD (keyD 0 (sF n g2) rest') t'], .lst (SqL.of kz3) dz3, .lst (SqL.of ku5D) (.cons dueD .nil), shp2, shp2, ?_⟩
    rw [eqv_shaped shp2]
    refine ⟨_, rfl, iteT ?_⟩
    obtain ⟨c2, e2, CA9, atz⟩ := WD.caller m0 m1
    rw [sg3] at e2
    cases e2
    have A9 := CA9.at_
    refine ⟨_, rfl, _, rfl, L, _, _, _, rfl, rfl, SqL.of WD.at_, atz, c8.o, c8.dx, _, rfl, A9.hp, (A9.no "bears").2, c8.o, c8.dx, me, "out", 0, c8.ro, c8.nu, .non, .non, c8.pl, _, _, [], rfl, A9, .inl ⟨rfl, ?_⟩⟩
    refine ⟨rfl, _, rfl, iteT' rfl ?_⟩
    refine ⟨_, rfl, _, rfl, L, _, _, _, rfl, rfl, SqL.of WD.at_, atz, c8.o, C, c8.dx, _, _, rfl, A9.hp, S.cl, S.state, caF_stt _ _ _ _ _ _ _ _ _, rfl, ?_⟩
    rw [dec_str, show decide (("out" : Str) = "out") = true from decide_eq_true rfl]
    exact fin _
end

end G0
namespace G0
open PySem PySem.Spec PyProof.Rows L2 NdefX ClX
section
variable {P : Program} {w : World} {K : PySem.W.Frag} {mg : Str → Option Value} {base : Heap} {C CK : Addr}
structure MkC (P : Program) (w : World) (K : PySem.W.Frag) (mg : Str → Option Value) (base : Heap) (C CK : Addr) : Prop where
  made : ∃ f fd ds, FnOk P w K mg base CX0 3 f fd ["self", "me", "seats", "first"] (spCInit K C CK) ∧ Vals [.int 0] ds ∧ Binds K fd ["self", "me", "seats", "first"] ds ∧
    KBn K fd ["self", "me", "seats", "first"] 3 ["first"] (fun us ws => us ++ ws) (fun vs zs => vs ++ zs) ∧ Mk K C f
  mg : mg "Caller" = some (.ref C)
/-! ### the bits of a cell -/
def spBits : Sp := fun vs H Q _ => ∃ c : Int, vs = [.int c] ∧ ∀ b : Int, Q (.int b) H
theorem sc_law_bits : FnScope ["cell", "number", "other"] ["cell"] (defScope s_law_bits) :=
  ⟨rfl, rfl, rfl, by decide +kernel, rfl, by decide +kernel, by decide +kernel⟩
theorem ok_bits (F : Fn K mg "_law_bits" s_law_bits) : Cal P w K mg base "_law_bits" 1 ["cell"] spBits := by
  refine cal_of F sc_law_bits
    (fun _ _ _ _ _ _ us hl => match us, hl with | [_], _ => rfl) ?_ ?_
  · rintro vs H Q E ⟨_, rfl, _⟩
    rfl
  rintro f cdv A outer s H vs Q E free hr ⟨c, rfl, q⟩
  refine ⟨_, (pss_cons (ps_if (pt_cmpR op_ge (pv 0) (pe_op op_pow pe_int pe_int) (nomark _))
    (pss_one (ps_ret (pe_op op_mod (pv 0) (pe_op op_pow pe_int pe_int))))
    pss_nil)
    (pss_cons (ps_set (i := 1) sc_law_bits.nd rfl (Or.inl rfl) (pe_op op_mod (pe_op op_add (pe_op op_mul (pe_op op_mod (pv 0) pe_int) pe_int) pe_int) pe_int))
    (pss_cons (ps_set (i := 1) sc_law_bits.nd rfl (Or.inl rfl) (pe_op op_mod (pe_op op_mul (pv 1) (pv 1)) pe_int))
    (pss_cons (ps_set (i := 2) sc_law_bits.nd rfl (Or.inl rfl) (pe_op op_mod (pe_op op_add (pe_op op_mul (pv 1) pe_int) pe_int) pe_int))
    (pss_cons (ps_set (i := 2) sc_law_bits.nd rfl (Or.inl rfl) (pe_op op_mod (pe_op op_mul (pv 2) (pv 2)) pe_int))
    (pss_one (ps_ret (pe_op op_add (pe_op op_mul (pe_op op_fdivW (pv 1) pe_int) (pe_op op_pow pe_int pe_int)) (pe_op op_fdivW (pv 2) pe_int))))))))), ?_⟩
  refine ⟨_, rfl, _, _, rfl, rfl, ⟨by decide, by decide, by decide⟩, _, _, rfl, rfl, _, rfl, ?_⟩
  refine ite2 (fun _ => ?_) (fun _ => ?_)
  · exact ⟨_, rfl, _, _, rfl, rfl, ⟨by decide, by decide, by decide⟩, _, _, rfl, rfl, (by show (0 : Int) < 2 ^ 60; decide), q _⟩
  refine ⟨_, rfl, _, _, rfl, rfl, (by show (0 : Int) < 2147483647; decide), _, _, rfl, rfl, .inr ⟨by decide, by decide⟩, _, _, rfl, rfl, _, _, rfl, rfl, (by show (0 : Int) < 2147483647; decide), ?_⟩
  generalize h1 : (c % 2147483647 * 48271 + 11) % 2147483647 = x
  have x0 : 0 ≤ x := by rw [← h1]; exact Int.emod_nonneg _ (by decide)
  have x1 : x < 2147483647 := by rw [← h1]; exact Int.emod_lt_of_pos _ (by decide)
  refine ⟨_, rfl, _, rfl, _, _, rfl, rfl, .inl ⟨by omega, by omega⟩, _, _, rfl, rfl, (by show (0 : Int) < 2147483629; decide), ?_⟩
  generalize h2 : x * x % 2147483629 = y
  have y0 : 0 ≤ y := by rw [← h2]; exact Int.emod_nonneg _ (by decide)
  have y1 : y < 2147483629 := by rw [← h2]; exact Int.emod_lt_of_pos _ (by decide)
  refine ⟨_, rfl, _, _, rfl, rfl, .inr ⟨by decide, by decide⟩, _, _, rfl, rfl, _, _, rfl, rfl, (by show (0 : Int) < 2147483579; decide), ?_⟩
  generalize h3 : (y * 69621 + 40692) % 2147483579 = z
  have z0 : 0 ≤ z := by rw [← h3]; exact Int.emod_nonneg _ (by decide)
  have z1 : z < 2147483579 := by rw [← h3]; exact Int.emod_lt_of_pos _ (by decide)
  refine ⟨_, rfl, _, rfl, _, _, rfl, rfl, .inl ⟨by omega, by omega⟩, _, _, rfl, rfl, (by show (0 : Int) < 2147483563; decide), ?_⟩
  refine ⟨_, rfl, _, _, rfl, rfl, ⟨by decide, by decide⟩, _, _, rfl, rfl, ⟨by decide, by decide, by decide⟩, _, _, rfl, rfl, .inr ⟨by decide, by decide⟩, _, rfl, _, _, rfl, rfl, ⟨by decide, by decide⟩, _, _, rfl, rfl, q _⟩
/-! ### a row of new callers -/
structure Row (H0 H : Hp) (C CK D : Addr) (n b : Int) (cs : List Ca) : Prop where
  at_ : H D = some (.lst ((cs.map (·.o)).map V.ref))
  all : ∀ (i : Nat) c, cs[i]? = some c → CaAt H C CK n (i : Int) c
  os : (cs.map (·.o)).Nodup
  nus : (cs.map (·.nu)).Nodup
  nr : ∀ c ∈ cs, ∀ c' ∈ cs, c.nu ≠ c'.ro
  kl : ∀ c ∈ cs, ∀ y, c.key = some y → ∀ c' ∈ cs, y.l ≠ c'.nu ∧ y.l ≠ c'.ro
  new : ∀ (i : Nat) c, cs[i]? = some c → c.st = "out" ∧ (c.f = fun _ => 0) ∧ ((i : Int) ≠ b → c.key = none) ∧ ((i : Int) = b → ∃ y, c.key = some y ∧ (y.g = fun _ => 0) ∧ y.ns = [])
  dn : ∀ c ∈ cs, c.nu ≠ D ∧ c.ro ≠ D ∧ ∀ y, c.key = some y → y.l ≠ D
  nf : ∀ c ∈ cs, H0 c.nu = none
theorem Row.empty {H0 H : Hp} {D : Addr} {n b : Int} (h : H D = some (.lst [])) : Row H0 H C CK D n b [] :=
  ⟨h, fun i c e => by simp at e, .nil, .nil, fun c h => absurd h List.not_mem_nil, fun c h => absurd h List.not_mem_nil, fun i c e => by simp at e, fun c h => absurd h List.not_mem_nil, fun c h => absurd h List.not_mem_nil⟩
theorem Row.snoc {H0 G H' : Hp} {D o dx ro nu pl : Addr} {key : V} {n b : Int} {cs : List Ca} (R : Row H0 G C CK D n b cs) (n2 : 2 ≤ n) (s : Same G H') (s0 : Same H0 G) (o0 : G o = none) (ro0 : G ro = none) (nu0 : G nu = none)
    (A : CalAt H' C o dx (cs.length : Int) "out" 0 ro nu key .non pl (rangeI n) (zeros n) []) (F : FreshKey H' CK n key (decide ((cs.length : Int) = b)) (fun l => G l = none)) :
    ∃ c : Ca, c.o = o ∧ Row H0 (upd H' D (.lst (((cs ++ [c]).map (·.o)).map V.ref))) C CK D n b (cs ++ [c]) := by
  obtain ⟨ky, ek, ky0, ky1, ky2⟩ : ∃ ky : Option Ky, key = keyV ky ∧ (∀ y, ky = some y → KeyAt H' CK y.k y.dk 0 y.d y.l (sF n y.g) y.ns ∧ G y.l = none) ∧ ((cs.length : Int) ≠ b → ky = none) ∧ ((cs.length : Int) = b → ∃ y, ky = some y ∧ (y.g = fun _ => 0) ∧ y.ns = []) := by
    unfold FreshKey at F
    by_cases c : (cs.length : Int) = b
    · rw [decide_eq_true c, if_pos rfl] at F
      obtain ⟨k, dk, d, l, e, KA, zl⟩ := F
      exact ⟨some ⟨k, dk, d, l, fun _ => 0, []⟩, e, fun y ey => by cases ey; exact ⟨KA, zl⟩, fun ne => absurd c ne, fun _ => ⟨_, rfl, rfl, rfl⟩⟩
    · rw [decide_eq_false c, if_neg (by decide)] at F
      exact ⟨none, F, fun y ey => (by cases ey), fun _ => rfl, fun e => absurd e c⟩
  obtain ⟨cn, ecn⟩ : ∃ cn : Ca, cn = ⟨o, dx, ro, nu, pl, "out", fun _ => 0, ky⟩ := ⟨_, rfl⟩
  have kD := s _ _ R.at_
  have oD : o ≠ D := (ne_of_none R.at_ o0).symm
  have rD : ro ≠ D := (ne_of_none R.at_ ro0).symm
  have nD : nu ≠ D := (ne_of_none R.at_ nu0).symm
  have CAn : CaAt H' C CK n (cs.length : Int) cn := by
    rw [ecn]
    exact ⟨by show CalAt H' C o dx _ "out" 0 ro nu (keyV ky) .non pl (rangeI n) (msF n fun _ => 0) []; rw [← ek, ← zeros_F]; exact A, fun y ey => (ky0 y ey).1⟩
  have out : ∀ {i : Int} {c : Ca}, CaAt H' C CK n i c → c.ro ≠ D → c.nu ≠ D → (∀ y, c.key = some y → y.l ≠ D) → CaAt (upd H' D (.lst (((cs ++ [cn]).map (·.o)).map V.ref))) C CK n i c := fun {i c} B h1 h2 h3 => by
    have ins : ∀ {x : Addr} {o' : HO}, H' x = some o' → (∀ ys, o' ≠ .lst ys) → upd H' D (.lst (((cs ++ [cn]).map (·.o)).map V.ref)) x = some o' := fun {x o'} e n => (upd_ne (fun z => by rw [z, kD] at e; exact n _ (Option.some.inj e).symm)).trans e
    exact ⟨⟨ins B.at_.hp (fun _ z => nomatch z), (upd_ne h1).trans B.at_.hr, (upd_ne h2).trans B.at_.hn, ins B.at_.hpl (fun _ z => nomatch z)⟩, fun y ey => { (B.key y ey) with hp := ins (B.key y ey).hp (fun _ z => nomatch z), hd := ins (B.key y ey).hd (fun _ z => nomatch z), hl := (upd_ne (h3 y ey)).trans (B.key y ey).hl }⟩
  have lD : ∀ y, ky = some y → y.l ≠ D := fun y ey => (ne_of_none R.at_ (ky0 y ey).2).symm
  have ecn_nu : cn.nu = nu := by rw [ecn]
  have ecn_ro : cn.ro = ro := by rw [ecn]
  have ecn_o : cn.o = o := by rw [ecn]
  have ecn_k : cn.key = ky := by rw [ecn]
  have old : ∀ c ∈ cs, ∃ i : Nat, CaAt G C CK n (i : Int) c := fun c m => by
    obtain ⟨i, hi⟩ := List.mem_iff_getElem?.mp m
    exact ⟨i, R.all i c hi⟩
  have ix : ∀ {i : Nat} {c : Ca}, (cs ++ [cn])[i]? = some c → (cs[i]? = some c ∧ i < cs.length) ∨ (i = cs.length ∧ c = cn) := fun {i c} e => by
    rcases Nat.lt_or_ge i cs.length with l | l
    · rw [List.getElem?_append_left l] at e
      exact .inl ⟨e, l⟩
    · rw [List.getElem?_append_right l] at e
      cases z : i - cs.length with
      | zero => rw [z] at e; simp at e; exact .inr ⟨by omega, e.symm⟩
      | succ u => rw [z] at e; simp at e
  have rn : nu ≠ ro := fun e => by
    have h1 := A.hn
    rw [e, A.hr] at h1
    have h2 := Option.some.inj h1
    injection h2 with h3
    have h4 := congrArg (fun z : List V => z[1]?) h3
    rw [zeros_F] at h4
    unfold msF at h4
    simp only [List.getElem?_map] at h4
    rw [rangeI_at (n := n) (j := 1) (by omega)] at h4
    simp at h4
  have nl : ∀ y, ky = some y → y.l ≠ nu ∧ y.l ≠ ro := fun y ey => by
    have hl := (ky0 y ey).1.hl
    have n0 : y.ns = [] := by
      by_cases c : (cs.length : Int) = b
      · obtain ⟨y2, e2, _, e3⟩ := ky2 c
        rw [ey] at e2
        cases e2
        exact e3
      · rw [ky1 c] at ey; cases ey
    rw [n0] at hl
    constructor
    · intro e
      rw [e, A.hn] at hl
      have h2 := Option.some.inj hl
      injection h2 with h3
      have h4 := congrArg List.length h3
      rw [List.length_map, zeros_F, msF_len, List.length_map, List.length_nil] at h4
      omega
    · intro e
      rw [e, A.hr] at hl
      have h2 := Option.some.inj hl
      injection h2 with h3
      have h4 := congrArg List.length h3
      rw [List.length_map, rangeI_len, List.length_map, List.length_nil] at h4
      omega
  refine ⟨cn, ecn_o, upd_same, fun i c e => ?_, ?_, ?_, fun c m c' m' => ?_, fun c m y ey c' m' => ?_, fun i c e => ?_, fun c m => ?_, fun c m => ?_⟩
  · rcases ix e with ⟨e, l⟩ | ⟨rfl, rfl⟩
    · have m := List.mem_of_getElem? e
      exact out ((R.all i c e).same s) (R.dn c m).2.1 (R.dn c m).1 (R.dn c m).2.2
    · exact out CAn (by rw [ecn_ro]; exact rD) (by rw [ecn_nu]; exact nD) (by rw [ecn_k]; exact lD)
  · rw [List.map_append, List.nodup_append]
    refine ⟨R.os, by simp, fun x hx z hz => ?_⟩
    obtain ⟨c, m, rfl⟩ := List.mem_map.mp hx
    rw [show z = o by simpa [ecn_o] using hz]
    obtain ⟨i, B⟩ := old c m
    exact ne_of_none B.at_.hp o0
  · rw [List.map_append, List.nodup_append]
    refine ⟨R.nus, by simp, fun x hx z hz => ?_⟩
    obtain ⟨c, m, rfl⟩ := List.mem_map.mp hx
    rw [show z = nu by simpa [ecn_nu] using hz]
    obtain ⟨i, B⟩ := old c m
    exact ne_of_none B.at_.hn nu0
  · rcases List.mem_append.mp m with m | m <;> rcases List.mem_append.mp m' with m' | m'
    · exact R.nr c m c' m'
    · rw [List.mem_singleton.mp m', ecn_ro]
      obtain ⟨i, B⟩ := old c m
      exact ne_of_none B.at_.hn ro0
    · rw [List.mem_singleton.mp m, ecn_nu]
      obtain ⟨i, B⟩ := old c' m'
      exact (ne_of_none B.at_.hr nu0).symm
    · rw [List.mem_singleton.mp m, List.mem_singleton.mp m', ecn_nu, ecn_ro]
      exact rn
  · rcases List.mem_append.mp m with m | m <;> rcases List.mem_append.mp m' with m' | m'
    · exact R.kl c m y ey c' m'
    · rw [List.mem_singleton.mp m', ecn_ro, ecn_nu]
      obtain ⟨i, B⟩ := old c m
      exact ⟨ne_of_none (B.key y ey).hl nu0, ne_of_none (B.key y ey).hl ro0⟩
    · rw [List.mem_singleton.mp m, ecn_k] at ey
      obtain ⟨i, B⟩ := old c' m'
      exact ⟨(ne_of_none B.at_.hn (ky0 y ey).2).symm, (ne_of_none B.at_.hr (ky0 y ey).2).symm⟩
    · rw [List.mem_singleton.mp m, ecn_k] at ey
      rw [List.mem_singleton.mp m', ecn_ro, ecn_nu]
      exact nl y ey
  · rcases ix e with ⟨e, l⟩ | ⟨rfl, rfl⟩
    · exact R.new i c e
    · rw [ecn]
      exact ⟨rfl, rfl, ky1, ky2⟩
  · rcases List.mem_append.mp m with m | m
    · exact R.dn c m
    · rw [List.mem_singleton.mp m, ecn_nu, ecn_ro, ecn_k]
      exact ⟨nD, rD, lD⟩
  · rcases List.mem_append.mp m with m | m
    · exact R.nf c m
    · rw [List.mem_singleton.mp m, ecn_nu]
      exact s0.free nu0
theorem Row.wc {H0 H : Hp} {D : Addr} {n b : Int} {cs : List Ca} (R : Row H0 H C CK D n b cs) (l : cs.length = n.toNat) : WC H C CK D n cs :=
  ⟨R.at_, l, R.all, R.os, R.nus, R.nr, R.kl, fun i j c c' hi hj ni nj => by
    have h1 := (R.new i c hi).2.2.1
    have h2 := (R.new j c' hj).2.2.1
    by_cases e1 : (i : Int) = b
    · by_cases e2 : (j : Int) = b
      · omega
      · exact absurd (h2 e2) nj
    · exact absurd (h1 e1) ni⟩
end

end G0
namespace G0
open PySem PySem.Spec PyProof.Rows L2 NdefX ClX
set_option maxHeartbeats 8000000
theorem sql_kept {K : PySem.W.Frag} {H H' : Hp} {a : Addr} {xs : List V} (h : SqL K H a xs) (k : ∀ o, H a = some o → H' a = some o) : SqL K H' a xs := by
  rcases h with (z | ⟨o', z⟩) | z
  · exact .inl (.inl (k _ z))
  · exact .inl (.inr ⟨o', k _ z⟩)
  · exact .inr z
theorem sql_frn {K : PySem.W.Frag} {N : List Addr} {H0 H H' : Hp} {a : Addr} {xs : List V} (h : SqL K H0 a xs) (s : Same H0 H) (f : FrN N H H') (nf : ∀ x ∈ N, H0 x = none) : SqL K H' a xs := by
  rcases h with (z | ⟨o', z⟩) | z
  · exact .inl (.inl (f _ _ (s _ _ z) (fun _ _ _ e => nomatch e) (fun _ e => nomatch e) fun _ m => by rw [nf a m] at z; cases z))
  · exact .inl (.inr ⟨o', f _ _ (s _ _ z) (fun _ _ _ e => nomatch e) (fun _ e => nomatch e) fun _ m => by rw [nf a m] at z; cases z⟩)
  · exact .inr z
theorem FreshKey.mono {H : Hp} {CK : Addr} {n : Int} {key : V} {b : Bool} {Z Z' : Addr → Prop} (h : FreshKey H CK n key b Z) (z : ∀ l, Z l → Z' l) : FreshKey H CK n key b Z' := by
  unfold FreshKey at h ⊢
  cases b with
  | true =>
    rw [if_pos rfl] at h ⊢
    obtain ⟨k, dk, d, l, e, A, zl⟩ := h
    exact ⟨k, dk, d, l, e, A, z l zl⟩
  | false => exact h
theorem key_chg {H H' : Hp} {C CK L : Addr} {n : Int} {cs : List Ca} {c : Ca} {y : Ky} (W : WC H C CK L n cs) {i : Nat} (hi : cs[i]? = some c) (ey : c.key = some y) (ch : ChgS [c.o, c.nu] H H') : KeyAt H' CK y.k y.dk 0 y.d y.l (sF n y.g) y.ns := by
  have CA := W.all i c hi
  have A := CA.at_
  have KA := CA.key y ey
  have mc := List.mem_of_getElem? hi
  have go : ∀ {a : Addr} {o : HO}, H a = some o → a ≠ c.o → a ≠ c.nu → H' a = some o := fun e h1 h2 => ch _ _ (by simp [h1, h2]) e
  exact { KA with
    hp := go KA.hp (ca_ne_ke A.hp KA.hp).symm (ne_of KA.hp A.hn (by intro z; cases z))
    hd := go KA.hd (ne_of KA.hd A.hp (by intro z; cases z)) (ne_of KA.hd A.hn (by intro z; cases z))
    hl := go KA.hl (ne_of KA.hl A.hp (by intro z; cases z)) (W.kl c mc y ey c mc).1 }
section
variable {P : Program} {w : World} {K : PySem.W.Frag} {mg : Str → Option Value} {base : Heap} {C CK : Addr}
def spLaw (K : PySem.W.Frag) : Sp := fun vs H Q _ => ∃ (a : Addr) (ns : List Int), vs = [.ref a] ∧ SqL K H a (ns.map V.int) ∧ (∀ z ∈ ns, Builtin.Int.intBits z ≤ 1048576) ∧ ∀ H', Q (.bl true) H'
theorem sc_law : FnScope ["script", "seats", "begins", "askers", "seat", "early", "late", "ones", "me", "ahead"] ["script"] (defScope s_law) :=
  ⟨rfl, rfl, rfl, by decide +kernel, rfl, by decide +kernel, by decide +kernel⟩
theorem ok_law (F : Fn K mg "law" s_law) (T : BlT72 mg) (S : CalT K C) (MC : MkC P w K mg base C CK) (C_cell_at : Cal P w K mg base "_law_cell_at" 1 ["script", "k"] (spCell K)) (C_bits : Cal P w K mg base "_law_bits" 1 ["cell"] spBits)
    (C_among : Cal P w K mg base "_law_among" 1 ["bits", "seats"] (spAmong K)) (C_quiet : Cal P w K mg base "_law_quiet" 6 ["one", "heard", "state"] (spQuiet K C CK)) (C_asked : Cal P w K mg base "_law_asked" 3 ["ones", "me", "number"] (spAsked K C CK))
    (C_first_leaves : Cal P w K mg base "_law_first_leaves" 6 ["ones", "begins", "early", "late"] (spFirst K C CK)) (C_second_leaves : Cal P w K mg base "_law_second_leaves" 7 ["ones", "begins", "ahead", "askers", "bits"] (spSecond K C CK))
    (MA : Me P w K mg base C "ask" 2 ["self"] (spAskC K C)) (MN : Me P w K mg base C "numbers" 1 ["self"] (spNum C)) : Cal P w K mg base "law" 8 ["script"] (spLaw K) := by
  obtain ⟨fA, fdA, GA, bA, mA⟩ := MA
  obtain ⟨fN, fdN, GN, bN, mN⟩ := MN
  obtain ⟨fC, fdC, dsC, GC, rC, bC, kC, MI⟩ := MC.made
  have gC := MC.mg
  refine cal_of F sc_law
    (fun _ _ _ _ _ _ us hl => match us, hl with | [_], _ => rfl) ?_ ?_
  · rintro vs H Q E ⟨a, ns, rfl, _⟩
    rfl
  rintro f cdv A outer s H vs Q E free hr ⟨sa, ns, rfl, hS, bits, q⟩
  have hr4 : Room 4 _ := hr.mono (by decide)
  have hr2 : Room 2 _ := hr.mono (by decide)
  have hr1 : Room 1 _ := hr.mono (by decide)
-- [(0, 'script'), (1, 'seats'), (2, 'begins'), (3, 'askers'), (4, 'seat'), (5, 'early'), (6, 'late'), (7, 'ones'), (8, 'me'), (9, 'ahead')]
  refine ⟨_, (pss_cons (ps_set (i := 1) sc_law.nd rfl (Or.inr rfl) (pe_op op_add pe_int (pe_op op_mod (pe_cal C_cell_at free (hr.mono (by decide)) (pa_cons (pv 0) (pa_cons pe_int pa_nil))) pe_int)))
    (pss_cons (ps_set (i := 2) sc_law.nd rfl (Or.inr rfl) (pe_op op_mod (pe_cal C_cell_at free (hr.mono (by decide)) (pa_cons (pv 0) (pa_cons pe_int pa_nil))) (pv 1)))
    (pss_cons (ps_set (i := 3) sc_law.nd rfl (Or.inl rfl) (pe_cal C_among free (hr.mono (by decide)) (pa_cons (pe_cal C_bits free (hr.mono (by decide)) (pa_cons (pe_cal C_cell_at free (hr.mono (by decide)) (pa_cons (pv 0) (pa_cons pe_int pa_nil))) pa_nil)) (pa_cons (pe_lc (own := [("seat", 4)]) (g := gName 4)  (by rfl) sc_law.nd (pi_range1 (by rfl) T.range (pa_cons (pv 1) pa_nil)) (blkOk_by (N := ["script", "seats", "begins", "askers", "seat", "early", "late", "ones", "me", "ahead"]) (sc := defScope s_law) (by decide +kernel)) (fun _ _ _ _ _ => pg_name (i := 4) sc_law.nd rfl (Or.inl rfl)) (fun _ _ _ _ _ => pts_one (pt_cmpR op_ne (pv 4) (pv 2) (nomark _))) (fun _ _ _ _ _ => (pv 4))) pa_nil))))
    (pss_cons (ps_set (i := 5) sc_law.nd rfl (Or.inr rfl) (pe_cal C_among free (hr.mono (by decide)) (pa_cons (pe_cal C_bits free (hr.mono (by decide)) (pa_cons (pe_cal C_cell_at free (hr.mono (by decide)) (pa_cons (pv 0) (pa_cons pe_int pa_nil))) pa_nil)) (pa_cons (pv 3) pa_nil))))
    (pss_cons (ps_setLc (i := 6) (own := [("seat", 4)]) (g := gName 4)  (by rfl) sc_law.nd rfl rfl (sw_true rfl rfl rfl (by decide +kernel)) (pi_list (pv 3)) (blkOk_by (N := ["script", "seats", "begins", "askers", "seat", "early", "late", "ones", "me", "ahead"]) (sc := defScope s_law) (by decide +kernel)) (fun _ _ _ _ _ => pg_name (i := 4) sc_law.nd rfl (Or.inl rfl)) (fun _ _ _ _ _ => pts_one (pt_cmpR (u_notinK K) (pv 4) (pv 5) (by rfl))) (fun _ _ _ _ _ => (pv 4)))
    (pss_cons (ps_if (pt_cmpR op_eq (pe_op op_mod (pe_op op_fdivW (pe_cal C_cell_at free (hr.mono (by decide)) (pa_cons (pv 0) (pa_cons pe_int pa_nil))) pe_int) pe_int) pe_int (nomark _))
    (pss_cons (ps_expr (pe_bm0 PySem.F.plainAttrs_list PySem.F.slot_list_reverse PySem.F.type_list_reverse mt_reverse (pv 5)))
    (pss_one (ps_expr (pe_bm0 PySem.F.plainAttrs_list PySem.F.slot_list_reverse PySem.F.type_list_reverse mt_reverse (pv 6)))))
    pss_nil)
    (pss_cons (ps_setLc (i := 7) (own := [("me", 8)]) (g := gName 8) (tt := tYes) (by rfl) sc_law.nd rfl rfl (sw_true rfl rfl rfl (by decide +kernel)) (pi_range1 (by rfl) T.range (pa_cons (pv 1) pa_nil)) (blkOk_by (N := ["script", "seats", "begins", "askers", "seat", "early", "late", "ones", "me", "ahead"]) (sc := defScope s_law) (by decide +kernel)) (fun _ _ _ _ _ => pg_name (i := 8) sc_law.nd rfl (Or.inl rfl)) (fun _ _ _ _ _ => pts_nil) (fun _ _ _ _ _ => (pe_makeK MI GC hr4 (by rfl) gC kC pass0 (pa_cons (pv 8) (pa_cons (pv 1) pa_nil)) (pk_cons (pv 2) pk_nil))))
    (pss_cons (ps_if (PW.pt (pw_or (pt_cmpR (op_neD (u64 hr)) (pe_meth0 (pe_ix ix_list (pv 7) (pv 2) (fun _ _ => rfl)) S.cl mA GA hr2 bA .nil pass0) (pe_lst pa_nil) (nomark _)) (pw_or (pt_cmpR op_ne (pe_fld (pe_ix ix_list (pv 7) (pv 2) (fun _ _ => rfl)) (by rfl)) pe_str (nomark _)) (pw_or1 (pt_cmpR op_ne (pe_ix ix_list (pe_meth0 (pe_ix ix_list (pv 7) (pv 2) (fun _ _ => rfl)) S.cl mN GN hr1 bN .nil pass0) (pv 2) (fun _ _ => rfl)) pe_int (nomark _))))))
    (pss_one (ps_ret pe_bl))
    pss_nil)
    (pss_cons (ps_for PassesOwn.never rfl (pi_list (pv 3)) (pg_name (i := 4) sc_law.nd rfl (Or.inl rfl))
    (pss_one (ps_if (pt_not (pt_val (pe_cal C_asked free (hr.mono (by decide)) (pa_cons (pv 7) (pa_cons (pv 4) (pa_cons pe_int pa_nil))))))
    (pss_one (ps_ret pe_bl))
    pss_nil)))
    (pss_cons (ps_if (pt_not (pt_val (pe_cal C_quiet free (hr.mono (by decide)) (pa_cons (pe_ix ix_list (pv 7) (pv 2) (fun _ _ => rfl)) (pa_cons (pe_lc (own := [("seat", 4)]) (g := gName 4) (tt := tYes) (by rfl) sc_law.nd (pi_list (pv 5)) (blkOk_by (N := ["script", "seats", "begins", "askers", "seat", "early", "late", "ones", "me", "ahead"]) (sc := defScope s_law) (by decide +kernel)) (fun _ _ _ _ _ => pg_name (i := 4) sc_law.nd rfl (Or.inl rfl)) (fun _ _ _ _ _ => pts_nil) (fun _ _ _ _ _ => (pe_tup (pa_cons (pv 4) (pa_cons pe_int pa_nil))))) (pa_cons pe_str pa_nil))))))
    (pss_one (ps_ret pe_bl))
    pss_nil)
    (pss_cons (ps_set (i := 9) sc_law.nd rfl (Or.inl rfl) (pe_cal C_first_leaves free (hr.mono (by decide)) (pa_cons (pv 7) (pa_cons (pv 2) (pa_cons (pv 5) (pa_cons (pv 6) pa_nil))))))
    (pss_cons (ps_if (pt_cmpR op_isN (pv 9) pe_non (nomark _))
    (pss_one (ps_ret pe_bl))
    pss_nil)
    (pss_cons (ps_if (pt_cmpR (op_eqD (u64 hr)) (pv 9) (pe_lst pa_nil) (nomark _))
    (pss_one (ps_ret (pe_and (pe_cmpR (op_eqD (u64 hr)) (pe_meth0 (pe_ix ix_list (pv 7) (pv 2) (fun _ _ => rfl)) S.cl mA GA hr2 bA .nil pass0) (pe_lst pa_nil) (nomark _)) (pe_and (pe_cmpR op_eq (pe_fld (pe_ix ix_list (pv 7) (pv 2) (fun _ _ => rfl)) (by rfl)) pe_str (nomark _)) (pe_one (pe_cmpR op_eq (pe_ix ix_list (pe_meth0 (pe_ix ix_list (pv 7) (pv 2) (fun _ _ => rfl)) S.cl mN GN hr1 bN .nil pass0) (pv 2) (fun _ _ => rfl)) pe_int (nomark _)))))))
    pss_nil)
    (pss_one (ps_ret (pe_cal C_second_leaves free (hr.mono (by decide)) (pa_cons (pv 7) (pa_cons (pv 2) (pa_cons (pv 9) (pa_cons (pv 3) (pa_cons (pe_cal C_bits free (hr.mono (by decide)) (pa_cons (pe_cal C_cell_at free (hr.mono (by decide)) (pa_cons (pv 0) (pa_cons pe_int pa_nil))) pa_nil)) pa_nil))))))))))))))))))))), ?_⟩
  refine ⟨_, rfl, sa, ns, 0, rfl, hS, by decide, bits, fun c0 _ => ⟨_, _, rfl, rfl, (by show (0 : Int) < 59; decide), _, _, rfl, rfl, ?_⟩⟩
  show gName 1 (V.int (2 + c0 % 59)) _ H _
  obtain ⟨n, hn⟩ : ∃ n : Int, n = 2 + c0 % 59 := ⟨_, rfl⟩
  have n2 : 2 ≤ n := by have := Int.emod_nonneg c0 (show (59 : Int) ≠ 0 by decide); omega
  have n60 : n ≤ 60 := by have := Int.emod_lt_of_pos c0 (show (0 : Int) < 59 by decide); omega
  rw [← hn]
  clear hn
  refine ⟨_, rfl, sa, ns, 1, rfl, hS, by decide, bits, fun c1 _ => ⟨_, rfl, _, _, rfl, rfl, (by show (0 : Int) < n; omega), ?_⟩⟩
  show gName 2 (V.int (c1 % n)) _ H _
  obtain ⟨b, hb⟩ : ∃ b : Int, b = c1 % n := ⟨_, rfl⟩
  have b0 : 0 ≤ b := by rw [hb]; exact Int.emod_nonneg _ (by omega)
  have b1 : b < n := by rw [hb]; exact Int.emod_lt_of_pos _ (by omega)
  rw [← hb]
  clear hb
  refine ⟨_, rfl, sa, ns, 2, rfl, hS, by decide, bits, fun c2 _ => ⟨c2, rfl, fun b2 => ?_⟩⟩
  refine ⟨_, rfl, _, rfl, by omega, by omega, fun D hD => ?_⟩
  refine lc_range (lo := 0) (n := n.toNat) (fun i G => Same H G ∧ G D = some (.lst ((othR ((rangeI n).take i) b).map V.int))) ⟨same_upd hD, upd_same⟩ ?_ ?_
  · rintro i G hi ⟨sG, kD⟩
    have er := rangeI_at (n := n) (j := i) (by omega)
    refine ⟨rfl, _, rfl, _, rfl, rfl, _, rfl, ?_⟩
    rw [dec_ii, Int.zero_add]
    have nx : othR ((rangeI n).take (i + 1)) b = othR ((rangeI n).take i) b ++ (if (!decide ((i : Int) = b)) = true then [(i : Int)] else []) := filt_next _ er
    rw [nx]
    refine ite2 (fun c4 => ?_) (fun c4 => ?_)
    · rw [if_pos c4]
      refine ⟨_, rfl, _, kD, ?_, fun a o e => ?_, ?_⟩
      · rw [List.length_map]
        refine Nat.lt_of_le_of_lt (List.length_filter_le _ _) ?_
        rw [List.length_take]
        exact Nat.lt_of_lt_of_le (show _ < 100 by omega) (by decide)
      · rw [upd_ne (ne_of_none e hD)]
        exact sG _ _ e
      · rw [List.map_append]
        exact upd_same
    · rw [if_neg c4, List.append_nil]
      exact ⟨sG, kD⟩
  rintro G1 ⟨s1, kD1⟩
  rw [List.take_of_length_le (by rw [rangeI_len]; first | exact Nat.le_refl _ | omega)] at kD1
  have ndO : (othR (rangeI n) b).Nodup := (rangeI_nd n).filter _
  have bO : ∀ m ∈ othR (rangeI n) b, 0 ≤ m ∧ m < n ∧ m ≠ b := fun m h => by
    have h1 := List.mem_filter.mp h
    have h2 := rangeI_mem.mp h1.1
    exact ⟨h2.1, h2.2, by simpa using h1.2⟩
  have lO : (othR (rangeI n) b).length ≤ 60 := by
    have := List.length_filter_le (fun s => !decide (s = b)) (rangeI n)
    rw [rangeI_len] at this
    unfold othR
    omega
  refine ⟨b2, D, _, rfl, kD1, by omega, fun x hx => by have := bO x hx; omega, fun ka H2 s2 hka kka => ?_⟩
  obtain ⟨ks, eks⟩ : ∃ ks, ks = (othR (rangeI n) b).filter (bitB b2) := ⟨_, rfl⟩
  rw [← eks] at kka
  have ndK : ks.Nodup := by rw [eks]; exact ndO.filter _
  have bK : ∀ m ∈ ks, 0 ≤ m ∧ m < n ∧ m ≠ b := fun m h => by rw [eks] at h; exact bO m (List.mem_filter.mp h).1
  have lK : ks.length ≤ 60 := by rw [eks]; exact Nat.le_trans (List.length_filter_le _ _) lO
  have s02 := s1.trans s2
  clear ndO bO lO eks kD1
  refine ⟨_, rfl, sa, ns, 3, rfl, sql_kept hS (s02 _), by decide, bits, fun c3 _ => ⟨c3, rfl, fun b3 => ?_⟩⟩
  refine ⟨_, rfl, b3, ka, ks, rfl, kka, by omega, fun x hx => by have := bK x hx; omega, fun ea H3 s3 hea kea => ?_⟩
  obtain ⟨er, eer⟩ : ∃ er, er = ks.filter (bitB b3) := ⟨_, rfl⟩
  rw [← eer] at kea
  have ndE : er.Nodup := by rw [eer]; exact ndK.filter _
  have bE : ∀ m ∈ er, m ∈ ks := fun m h => by rw [eer] at h; exact (List.mem_filter.mp h).1
  have lE : er.length ≤ 60 := by rw [eer]; exact Nat.le_trans (List.length_filter_le _ _) lK
  have kka3 := s3 _ _ kka
  refine ⟨_, rfl, ka, rfl, ⟨_, SqL.of kka3⟩, fun la hla => ?_⟩
  refine lc_filtI (K := K) (a := ka) (ns := ks) (fun m => !decide (m ∈ er)) (by omega) hla (SqL.of kka3) (fun i x G Y B hx sG h => ?_) (fun H4 s4 kla => ?_)
  · refine ⟨rfl, _, rfl, _, rfl, .inl ⟨ea, _, rfl, .inl (SqL.of (sG _ _ kea)), rfl, flat_ints _, _, rfl, ?_⟩⟩
    exact tst (by rw [inV_ints]; rfl) (fun y => ⟨_, rfl, y⟩) h
  obtain ⟨lt, elt⟩ : ∃ lt, lt = ks.filter fun m => !decide (m ∈ er) := ⟨_, rfl⟩
  rw [← elt] at kla
  have bL : ∀ m ∈ lt, m ∈ ks ∧ m ∉ er := fun m h => by
    rw [elt] at h
    have h1 := List.mem_filter.mp h
    exact ⟨h1.1, by simpa using h1.2⟩
  have s04 := (s02.trans s3).trans s4
  have kea4 := s4 _ _ kea
  have kka4 := s4 _ _ kka3
  refine ⟨_, rfl, sa, ns, 1, rfl, sql_kept hS (s04 _), by decide, bits, fun c5 _ => ⟨_, _, rfl, rfl, ⟨by decide, by decide⟩, _, _, rfl, rfl, (by show (0 : Int) < 2; decide), rfl, _, rfl, ?_⟩⟩
  have ae : ea ≠ la := ne_of_none kea hla
  have ake : ka ≠ ea := ne_of_none kka hea
  have akl : ka ≠ la := ne_of_none kka3 hla
  refine iteJ (fun G => (∀ a o, a ≠ ea → a ≠ la → H4 a = some o → G a = some o) ∧ ∃ E T : List Int, G ea = some (.lst (E.map V.int)) ∧ G la = some (.lst (T.map V.int)) ∧ E.Nodup ∧ (∀ m, m ∈ E ↔ m ∈ er) ∧ ∀ m ∈ T, m ∈ lt) (fun _ J => ?_) (fun _ => ?_) ?_
  · refine ⟨_, rfl, .inl ⟨rfl, _, SqL.of kea4⟩, ea, _, rfl, rfl, kea4, ?_⟩
    have kla2 : upd H4 ea (.lst (er.map V.int).reverse) la = some (.lst (lt.map V.int)) := (upd_ne ae.symm).trans kla
    refine ⟨_, rfl, .inl ⟨rfl, _, SqL.of kla2⟩, la, _, rfl, rfl, kla2, ?_⟩
    refine J _ ⟨fun a o h1 h2 e => (upd_ne h2).trans ((upd_ne h1).trans e), er.reverse, lt.reverse, ?_, ?_, (List.reverse_perm er).nodup_iff.mpr ndE, fun m => List.mem_reverse, fun m h => List.mem_reverse.mp h⟩
    · rw [upd_ne ae, upd_same, List.map_reverse]
    · rw [upd_same, List.map_reverse]
  · exact ⟨fun a o _ _ e => e, er, lt, kea4, kla, ndE, fun m => Iff.rfl, fun m h => h⟩
  rintro H5 ⟨k5, E, T5, kE, kT, ndE5, mE, mT⟩
  have kS5 : ∀ o, H sa = some o → H5 sa = some o := fun o e => k5 _ _ (fun z => by rw [z] at e; have := s02 _ _ e; rw [hea] at this; cases this) (fun z => by rw [z] at e; have := s3 _ _ (s02 _ _ e); rw [hla] at this; cases this) (s04 _ _ e)
  have hS5 := sql_kept hS kS5
  have kK5 := k5 _ _ ake akl kka4
  have bE5 : ∀ m ∈ E, m ∈ ks := fun m h => bE m ((mE m).mp h)
  have bT5 : ∀ m ∈ T5, m ∈ ks ∧ m ∉ E := fun m h => ⟨(bL m (mT m h)).1, fun z => (bL m (mT m h)).2 ((mE m).mp z)⟩
  have lE5 : E.length ≤ 60 := by
    have p : E.Perm er := (List.perm_ext_iff_of_nodup ndE5 ndE).mpr mE
    rw [p.length_eq]
    exact lE
  clear k5 kS5 s04 kea4 kka4 kla kea kka s1 s2 s3 s4
  refine ⟨_, rfl, _, rfl, by omega, by omega, fun L hL => ?_⟩
  refine lc_range (lo := 0) (n := n.toNat) (fun i G => Same H5 G ∧ ∃ cs : List Ca, cs.length = i ∧ Row H5 G C CK L n b cs) ⟨same_upd hL, [], rfl, Row.empty upd_same⟩ ?_ ?_
  · rintro i G hi ⟨sG, cs, lcs, R⟩
    refine ⟨rfl, lc_yes ?_⟩
    refine ⟨_, rfl, _, rfl, _, rfl, rfl, rfl, fun y dy hy hdy ne => ?_⟩
    have s1 : Same G (upd (upd G dy (.own y)) y (.ins C dy [])) := (same_upd hdy).trans (same_upd (by rw [upd_ne ne.symm]; exact hy))
    refine ⟨y, dy, 0 + (i : Int), n, b, rfl, upd_same, by omega, n60, fun ro nu pl key H' cg r0 u0 l0 A0 FK => ⟨rfl, ?_⟩⟩
    have s2 : Same G H' := fun b o e => cg _ _ (ne_of_none e hy) (s1 _ _ e)
    have kD2 := s2 _ _ R.at_
    rw [Int.zero_add, ← lcs] at A0 FK
    have z0 : ∀ {a : Addr}, upd (upd G dy (.own y)) y (.ins C dy []) a = none → G a = none := fun h => s1.free h
    obtain ⟨c, ec, R2⟩ := R.snoc n2 s2 sG hy (z0 r0) (z0 u0) A0 (FK.mono fun l h => z0 h)
    refine ⟨_, kD2, ?_, fun a o e => ?_, cs ++ [c], by rw [List.length_append, lcs]; rfl, ?_⟩
    · rw [List.length_map, List.length_map]
      exact Nat.lt_of_lt_of_le (show cs.length < 100 by omega) (by decide)
    · rw [upd_ne (ne_of_none e hL)]
      exact s2 _ _ (sG _ _ e)
    · rw [List.map_append, List.map_append] at R2
      rw [← ec]
      exact R2
  rintro G6 ⟨s6, cs, lcs, R⟩
  have W6 := R.wc (lcs.trans (by first | rfl | omega))
  obtain ⟨c, hc, CA, atc⟩ := W6.caller b0 b1
  obtain ⟨st0, cf0, _, ky⟩ := R.new b.toNat c hc
  obtain ⟨y, ek, yg, yn⟩ := ky (by omega)
  have mc := List.mem_of_getElem? hc
  have A0 := CA.at_
  rw [ek] at A0
  have lms : ((msF n c.f).length : Int) = n := by rw [msF_len]; omega
  have il := (List.getElem?_eq_some_iff.mp hc).1
  have sg : ∀ {c7 : Ca}, (cs.set b.toNat c7)[b.toNat]? = some c7 := List.getElem?_set_self il
  have nusF : ∀ x ∈ cs.map (·.nu), H5 x = none := fun x hx => by
    obtain ⟨c3, m3, e3⟩ := List.mem_map.mp hx
    rw [← e3]
    exact R.nf c3 m3
  have notN : ∀ {a : Addr} {o : HO}, H5 a = some o → a ∉ cs.map (·.nu) := fun e m => by rw [nusF _ m] at e; cases e
  refine ⟨_, rfl, _, rfl, L, _, _, _, rfl, rfl, SqL.of W6.at_, atc, c.o, c.dx, _, rfl, A0.hp, (A0.no "ask").2, c.o, c.dx, c.ro, c.nu, c.pl, b, 0, c.st, .ref y.k, .non, rangeI n, msF n c.f, [], rfl, A0, b0, by omega, by rw [msF_len]; omega, (W6.nr c mc c mc).symm, by rw [rangeI_len]; omega, .inl ⟨⟨y.k, rfl⟩, fun z H7 ch A7 kz => ?_⟩⟩
  obtain ⟨cA, ecA⟩ : ∃ cA : Ca, cA = { c with st := "in", f := updI c.f b (c.f b + 1) } := ⟨_, rfl⟩
  have CA7 : CaAt H7 C CK n b cA := by
    rw [ecA]
    refine ⟨?_, fun y2 e2 => ?_⟩
    · show CalAt H7 C c.o c.dx b "in" 0 c.ro c.nu (keyV c.key) .non c.pl (rangeI n) (msF n (updI c.f b (c.f b + 1))) []
      rw [ek, ← inc_F b0 b1]
      exact A7
    · have e2 : c.key = some y2 := e2
      rw [ek] at e2
      cases e2
      exact key_chg W6 hc ek ch
  have ekA : cA.key = some y := by rw [ecA]; exact ek
  have stA : cA.st = "in" := by rw [ecA]
  have others6 : ∀ (j : Nat) c2, cs[j]? = some c2 → j ≠ b.toNat → c2.key = none := fun j c2 h2 ne => (R.new j c2 h2).2.2.1 (by omega)
  have chf : ChgS (foot c) G6 H7 := ch.mono fun a ha => by
    simp only [List.mem_cons, List.not_mem_nil, or_false] at ha
    rcases ha with rfl | rfl <;> simp [foot]
  have W7 := W6.set (c' := cA) (by omega) hc chf (by rw [show ((b.toNat : Nat) : Int) = b by omega]; exact CA7) (by rw [ecA]) (by rw [ecA]) (by rw [ecA]) (fun y2 e2 c2 m2 => by rw [ekA] at e2; cases e2; exact W6.kl c mc y ek c2 m2) (fun _ => others6)
  have f57 := (Same.frn s6).trans (W6.frn hc chf)
  have nusA : (cs.set b.toNat cA).map (·.nu) = cs.map (·.nu) := nus_set hc (by rw [ecA])
  refine ⟨Nat.zero_le _, fun e1 he1 => ?_⟩
  have v1s := same_upd (o := .lst []) he1
  refine ⟨.list [], .list [], .lst (SqL.of (v1s _ _ kz)) .nil, .lst (SqL.of upd_same) .nil, by decide, by decide, _, rfl, iteF' (by decide +kernel) ?_⟩
  have W8 := W7.same v1s
  obtain ⟨c2, e2, CA8, atz⟩ := W8.caller b0 b1
  rw [sg] at e2
  cases e2
  have A8 := CA8.at_
  rw [ekA] at A8
  refine ⟨_, rfl, _, rfl, L, _, _, _, rfl, rfl, SqL.of W8.at_, atz, cA.o, C, cA.dx, _, _, rfl, A8.hp, S.cl, S.state, caF_stt _ _ _ _ _ _ _ _ _, rfl, _, rfl, iteF' (by rw [stA]; decide +kernel) ?_⟩
  refine ⟨_, rfl, _, rfl, L, _, _, _, rfl, rfl, SqL.of W8.at_, atz, cA.o, cA.dx, _, rfl, A8.hp, (A8.no "numbers").2, cA.o, cA.dx, b, cA.st, 0, cA.ro, cA.nu, .ref y.k, .non, cA.pl, rangeI n, _, [], rfl, A8, fun l3 h3 => ?_⟩
  have v2s := same_upd (o := .lst ((msF n cA.f).map V.int)) h3
  have fA : cA.f = g1F b := by rw [ecA]; show updI c.f b (c.f b + 1) = g1F b; rw [cf0]; rfl
  refine ⟨_, rfl, l3, _, _, .int 1, rfl, rfl, SqL.of upd_same, ?_, rfl, _, rfl, iteF' rfl ?_⟩
  · rw [at_ms b0 (by rw [msF_len]; omega), msF_get b0 b1, fA]
    unfold g1F updI
    rw [if_pos rfl]
  have W9 := W8.same v2s
  have f59 := f57.trans (Same.frn (v1s.trans v2s))
  have kK9 := lst_frn f59 kK5 (notN kK5)
  refine ⟨_, rfl, ka, rfl, ⟨_, SqL.of kK9⟩, ?_⟩
  refine for_list (K := K) (a := ka) (xs := ks.map V.int) (fun j σ G => (∃ z4 : Option V, σ = [some (V.ref sa), some (V.int n), some (V.int b), some (V.ref ka), z4, some (V.ref ea), some (V.ref la), some (V.ref L), none, none]) ∧ FrN (cs.map (·.nu)) H5 G ∧ ∃ cs' : List Ca, WC G C CK L n cs' ∧ cs'.map (·.nu) = cs.map (·.nu) ∧ cs'[b.toNat]? = some cA ∧ ∀ m : Int, 0 ≤ m → m < n → m ≠ b → ∃ c, cs'[m.toNat]? = some c ∧ c.key = none ∧ (m ∈ ks.take j → c.st = "asking" ∧ c.f = onF m) ∧ (m ∉ ks.take j → c.f = fun _ => 0)) ⟨⟨_, rfl⟩, f59, _, W9, nusA, sg, ?_⟩ (fun j σ G _ h => SqL.of (lst_frn h.2.1 kK5 (notN kK5))) ?_ ?_
  · intro m m0 m1 mb
    obtain ⟨c2, e2, _, _⟩ := W6.caller m0 m1
    have nw := R.new m.toNat c2 e2
    exact ⟨c2, by rw [List.getElem?_set_ne (by omega)]; exact e2, nw.2.2.1 (by omega), fun h => absurd h List.not_mem_nil, fun _ => nw.2.1⟩
  · rintro j x σ G hx ⟨⟨z4, rfl⟩, fG, cs', WG, nus', hb', oth'⟩
    obtain ⟨m, hm, rfl⟩ := ints_at' hx
    obtain ⟨m0, m1, mb⟩ := bK m (List.mem_of_getElem? hm)
    obtain ⟨cm, hcm, kcm, _, fcm⟩ := oth' m m0 m1 mb
    have nin : m ∉ ks.take j := fun z => by
      obtain ⟨j2, lj, ej⟩ := List.mem_take_iff_getElem.mp z
      have h1 : ks[j2]? = some m := by rw [List.getElem?_eq_getElem (by omega), ej]
      have lj2 := (List.getElem?_eq_some_iff.mp hm).1
      have := (List.getElem?_inj (by omega) ndK).mp (h1.trans hm.symm)
      omega
    have fm := fcm nin
    refine ⟨_, rfl, _, rfl, L, n, m, 1, cs', cm, rfl, WG, n2, n60, m0, m1, hcm, kcm, by rw [fm]; rfl, fun G2 W2 f2 => ?_⟩
    refine ⟨_, rfl, iteF' rfl ?_⟩
    rw [nus'] at f2
    refine ⟨⟨_, rfl⟩, fG.trans f2, _, W2, (nus_set (c' := askedC cm m) hcm rfl).trans nus', by rw [List.getElem?_set_ne (by omega)]; exact hb', fun m2 m20 m21 mb2 => ?_⟩
    obtain ⟨c2, hc2, kc2, ac2, fc2⟩ := oth' m2 m20 m21 mb2
    have tk : ks.take (j + 1) = ks.take j ++ [m] := by rw [List.take_succ, hm]; rfl
    by_cases e : m2 = m
    · subst e
      refine ⟨askedC cm m2, List.getElem?_set_self (List.getElem?_eq_some_iff.mp hcm).1, kcm, fun _ => ⟨rfl, ?_⟩, fun h => absurd (by rw [tk]; simp) h⟩
      show updI cm.f m2 (cm.f m2 + 1) = onF m2
      rw [fm]
      rfl
    · refine ⟨c2, by rw [List.getElem?_set_ne (by omega)]; exact hc2, kc2, fun h => ac2 ?_, fun h => fc2 fun z => h (by rw [tk]; exact List.mem_append.mpr (.inl z))⟩
      rw [tk] at h
      rcases List.mem_append.mp h with z | z
      · exact z
      · exact absurd (List.mem_singleton.mp z) e
  rintro σ G9 ⟨⟨z4, rfl⟩, f9, cs', WG, nus', hb', oth'⟩
  rw [List.length_map, List.take_length] at oth'
  obtain ⟨c2, e2, _, atb⟩ := WG.caller b0 b1
  rw [hb'] at e2
  cases e2
  have kE9 := lst_frn f9 kE (notN kE)
  have kT9 := lst_frn f9 kT (notN kT)
  have kK9 := lst_frn f9 kK5 (notN kK5)
  refine ⟨_, rfl, _, rfl, L, _, _, _, rfl, rfl, SqL.of WG.at_, atb, ?_⟩
  refine ⟨_, rfl, ea, rfl, ⟨_, SqL.of kE9⟩, fun D2 hD2 => ?_⟩
  refine lc_dataI (K := K) (a := ea) (ns := E) (fun _ => true) (fun m => pairD (m, 1)) (by omega) (fun x _ => by simp [pairD, noL, noLs]) hD2 (SqL.of kE9) (fun i x G Y B hx sG h1 h2 => ?_) (fun G10 zs10 s10 kD10 d10 => ?_)
  · refine ⟨rfl, lc_yes ?_⟩
    exact ⟨_, rfl, by show 2 ≤ sizeLine; decide, fun t ht => h1 rfl (.ref t) _ (same_upd ht) (.tup (SqT.of upd_same) (.cons (.int x) (.cons (.int 1) .nil)))⟩
  rw [show E.filter (fun _ => true) = E from List.filter_eq_self.mpr fun _ _ => rfl, ← prs1_D] at d10
  have D2n : D2 ∉ cs'.map (·.nu) := WG.notN hD2
  have nbE : b ∉ E := fun h => (bK b (bE5 b h)).2.2 rfl
  have g1o : ∀ m, m ≠ b → g1F b m = 0 := fun m h => by unfold g1F updI; rw [if_neg h]
  have g1b : g1F b b = 1 := by unfold g1F updI; rw [if_pos rfl]
  refine ⟨L, D2, n, b.toNat, cs', cA, zs10, prs1 E, cA.o, by rw [stA]; rfl, rfl, WG.same s10, n2, n60, hb', .inr stA, kD10, d10, D2n, ?_, by rw [prs1_fst]; exact ndE5, by unfold prs1; rw [List.length_map]; omega, fun H11 W11 f11 => ?_⟩
  · intro q hq
    unfold prs1 at hq
    obtain ⟨m, hm, rfl⟩ := List.mem_map.mp hq
    have z := bK m (bE5 m hm)
    refine ⟨⟨z.1, z.2.1⟩, ?_⟩
    show cA.f m ≤ 1
    rw [fA, g1o m z.2.2]
    decide
  refine ⟨_, rfl, iteF' rfl ?_⟩
  rw [nus'] at f11
  obtain ⟨cQ, ecQ⟩ : ∃ cQ, cQ = hearC cA (prs1 E) := ⟨_, rfl⟩
  rw [← ecQ] at W11
  have fQ : cQ.f = hF (prs1 E) (g1F b) := by rw [ecQ, ← fA]; rfl
  have fQb : cQ.f b = 1 := by rw [fQ, hF_not (by rw [prs1_fst]; exact nbE)]; exact g1b
  have fQo : ∀ m, 0 ≤ m → m < n → m ≠ b → cQ.f m = if m ∈ E then 1 else 0 := fun m _ _ h => by
    by_cases hE : m ∈ E
    · rw [if_pos hE, fQ, hF_mem (l := prs1 E) (by rw [prs1_fst]; exact ndE5) (show (m, 1) ∈ prs1 E from List.mem_map.mpr ⟨m, hE, rfl⟩)]
    · rw [if_neg hE, fQ, hF_not (by rw [prs1_fst]; exact hE), g1o m h]
  have il' := (List.getElem?_eq_some_iff.mp hb').1
  have sg' : ∀ {c7 : Ca}, (cs'.set b.toNat c7)[b.toNat]? = some c7 := List.getElem?_set_self il'
  have nusQ : (cs'.set b.toNat cQ).map (·.nu) = cs.map (·.nu) := (nus_set hb' (by rw [ecQ]; rfl)).trans nus'
  have f11' : FrN (cs.map (·.nu)) H5 H11 := f9.trans ((Same.frn s10).trans f11)
  have kE11 := lst_frn f11' kE (notN kE)
  have kT11 := lst_frn f11' kT (notN kT)
  have second : ∀ (l : Addr) (me b6 : Int) (rest : List Int) (cX : Ca) (H' : Hp) (E' : XK), WC H' C CK L n (cs'.set b.toNat cX) → cX.key = none → cX.f b = 1 → cX.nu = cA.nu → FrN (cs.map (·.nu)) H5 H' → l ∉ cs.map (·.nu) → H' l = some (.lst ((me :: rest).map V.int)) →
      me ∈ ks → (∀ m ∈ rest, m ∈ ks) → (me :: rest).Nodup → spSecond K C CK [.ref L, .int b, .ref l, .ref ka, .int b6] H' Q E' := fun l me b6 rest cX H' E' WX kX fX eX fr nl kl hme hrest nd => by
    obtain ⟨m0, m1, mb⟩ := bK me hme
    obtain ⟨cm, hcm, kcm, acm, _⟩ := oth' me m0 m1 mb
    have nX : (cs'.set b.toNat cX).map (·.nu) = cs.map (·.nu) := (nus_set hb' eX).trans nus'
    have nd2 := List.nodup_cons.mp nd
    refine ⟨L, l, ka, n, b, me, b6, _, cX, cm, rest, ks, rfl, WX, n2, n60, b0, b1, fun c3 m3 => ?_, sg', fX, kl, by rw [nX]; exact nl, m0, m1, mb, by rw [List.getElem?_set_ne (by omega)]; exact hcm, (acm hme).1, (acm hme).2, nd2.2, fun m hm => ⟨(bK m (hrest m hm)).1, (bK m (hrest m hm)).2.1, fun e => nd2.1 (by rw [← e]; exact hm)⟩, lst_frn fr kK5 (notN kK5), by rw [nX]; exact notN kK5, ndK, bK, q⟩
    rcases List.mem_or_eq_of_mem_set m3 with z | z
    · obtain ⟨j, hj⟩ := List.mem_iff_getElem?.mp z
      by_cases e : j = b.toNat
      · subst e
        obtain ⟨j3, hj3⟩ := List.mem_iff_getElem?.mp m3
        by_cases e3 : j3 = b.toNat
        · subst e3
          rw [sg'] at hj3
          cases hj3
          exact kX
        · rw [List.getElem?_set_ne (fun z => e3 z.symm)] at hj3
          have lt := (List.getElem?_eq_some_iff.mp hj3).1
          have ln := WG.len
          obtain ⟨c4, h4, k4, _⟩ := oth' (j3 : Int) (by omega) (by omega) (by omega)
          rw [show ((j3 : Int)).toNat = j3 from rfl, hj3] at h4
          cases h4
          exact k4
      · have lt := (List.getElem?_eq_some_iff.mp hj).1
        have ln := WG.len
        obtain ⟨c4, h4, k4, _⟩ := oth' (j : Int) (by omega) (by omega) (by omega)
        rw [show ((j : Int)).toNat = j from rfl, hj] at h4
        cases h4
        exact k4
    · rw [z]; exact kX
  have ekQ : cQ.key = some y := by rw [ecQ]; exact ekA
  refine ⟨_, rfl, _, rfl, _, rfl, _, rfl, L, ea, la, n, b, _, cQ, y, E, T5, rfl, W11, n2, n60, b0, b1, sg', ekQ, yg, yn, fQb, fQo, nbE, fun t ht => ⟨(bK t (bT5 t ht).1).1, (bK t (bT5 t ht).1).2.1, (bK t (bT5 t ht).1).2.2, (bT5 t ht).2⟩, kE11, kT11, by rw [nusQ]; exact notN kE, by rw [nusQ]; exact notN kT, fun hA l H' WX fX nl kl => ?_, fun hA hT l y' H' g' n' WX fX nl kl => ?_, fun t T' hA hT l H' WX fX nl kl => ?_⟩
  · obtain ⟨me, rest, eA⟩ : ∃ me rest, rndF n b (fun m => decide (m ∈ E)) = me :: rest := by
      cases h : rndF n b (fun m => decide (m ∈ E)) with
      | nil => exact absurd h hA
      | cons x xs => exact ⟨x, xs, rfl⟩
    have inE : ∀ m ∈ me :: rest, m ∈ ks := fun m hm => by
      rw [← eA] at hm
      exact bE5 m (of_decide_eq_true ((rndF_mem b0 b1).mp hm).2)
    have ndA : (me :: rest).Nodup := by rw [← eA]; exact rndF_nd b0 b1
    rw [eA] at kl
    rw [List.set_set] at WX
    rw [nusQ] at fX nl
    have fX5 := f11'.trans fX
    refine ⟨_, rfl, rfl, _, rfl, iteF' rfl ?_⟩
    refine ⟨_, rfl, Nat.zero_le _, fun e he => ?_⟩
    have se := same_upd (o := .lst []) he
    refine ⟨.list ((me :: rest).map PyData.int), .list [], dp_ints (se _ _ kl), .lst (SqL.of upd_same) .nil, shaped_ints _, by decide, _, rfl, ?_⟩
    rw [eqv_nilI]
    refine iteF' (decide_eq_false (fun z => nomatch z)) ?_
    have fY := fX5.trans (Same.frn se)
    refine ⟨_, rfl, _, rfl, _, rfl, _, rfl, _, rfl, sa, ns, 4, rfl, sql_frn hS5 (Same.refl _) fY nusF, by decide, bits, fun c6 _ => ⟨c6, rfl, fun b6 => ?_⟩⟩
    exact second l me b6 rest _ _ E0 (WX.same se) rfl fQb (by rw [ecQ]; rfl) fY nl (se _ _ kl) (inE me (List.mem_cons_self ..)) (fun m hm => inE m (List.mem_cons_of_mem _ hm)) ndA
  · rw [List.set_set] at WX
    rw [nusQ] at fX nl
    refine ⟨_, rfl, rfl, _, rfl, iteF' rfl ?_⟩
    refine ⟨_, rfl, Nat.zero_le _, fun e he => ?_⟩
    have se := same_upd (o := .lst []) he
    refine ⟨.list [], .list [], .lst (SqL.of (se _ _ kl)) .nil, .lst (SqL.of upd_same) .nil, by decide, by decide, _, rfl, iteT' (by decide +kernel) ?_⟩
    have WY := WX.same se
    obtain ⟨cX, ecX⟩ : ∃ cX : Ca, cX = { cQ with st := "out", key := some y' } := ⟨_, rfl⟩
    rw [← ecX] at WY
    have ekX : cX.key = some y' := by rw [ecX]
    obtain ⟨c2, e2, CY, aty⟩ := WY.caller b0 b1
    rw [sg'] at e2
    cases e2
    have AY := CY.at_
    rw [ekX] at AY
    have mY := List.mem_of_getElem? (sg' (c7 := cX))
    refine ⟨_, rfl, _, rfl, L, _, _, _, rfl, rfl, SqL.of WY.at_, aty, cX.o, cX.dx, _, rfl, AY.hp, (AY.no "ask").2, cX.o, cX.dx, cX.ro, cX.nu, cX.pl, b, 0, cX.st, .ref y'.k, .non, rangeI n, msF n cX.f, [], rfl, AY, b0, by rw [msF_len]; omega, by rw [msF_len]; omega, (WY.nr cX mY cX mY).symm, by rw [rangeI_len]; omega, .inl ⟨⟨y'.k, rfl⟩, fun z HZ ch AZ kz => ?_⟩⟩
    have fXb : cX.f b = 1 := by rw [ecX]; exact fQb
    obtain ⟨cZ, ecZ⟩ : ∃ cZ : Ca, cZ = { cX with st := "in", f := updI cX.f b (cX.f b + 1) } := ⟨_, rfl⟩
    have CAZ : CaAt HZ C CK n b cZ := by
      rw [ecZ]
      refine ⟨?_, fun y2 e2 => ?_⟩
      · show CalAt HZ C cX.o cX.dx b "in" 0 cX.ro cX.nu (keyV cX.key) .non cX.pl (rangeI n) (msF n (updI cX.f b (cX.f b + 1))) []
        rw [ekX, ← inc_F b0 b1]
        exact AZ
      · have e2 : cX.key = some y2 := e2
        rw [ekX] at e2
        cases e2
        exact key_chg WY sg' ekX ch
    have ekZ : cZ.key = some y' := by rw [ecZ]; exact ekX
    have stZ : cZ.st = "in" := by rw [ecZ]
    have chfZ : ChgS (foot cX) (upd H' e (.lst [])) HZ := ch.mono fun a ha => by
      simp only [List.mem_cons, List.not_mem_nil, or_false] at ha
      rcases ha with rfl | rfl <;> simp [foot]
    have WZ := WY.set (c' := cZ) (by omega) sg' chfZ (by rw [show ((b.toNat : Nat) : Int) = b by omega]; exact CAZ) (by rw [ecZ]) (by rw [ecZ]) (by rw [ecZ]) (fun y2 e2 c2 m2 => by rw [ekZ] at e2; cases e2; exact WY.kl cX mY y' ekX c2 m2) (fun _ j c2 h2 ne => by
      cases e2 : c2.key with
      | none => rfl
      | some y2 => exact absurd (WY.one j b.toNat c2 cX h2 sg' (by rw [e2]; exact fun z => nomatch z) (by rw [ekX]; exact fun z => nomatch z)) ne)
    rw [List.set_set] at WZ
    refine ⟨Nat.zero_le _, fun e1 he1 => ?_⟩
    have v1s := same_upd (o := .lst []) he1
    refine ⟨.list [], .list [], .lst (SqL.of (v1s _ _ kz)) .nil, .lst (SqL.of upd_same) .nil, by decide, by decide, ?_⟩
    refine ⟨_, rfl, iteT' (by decide +kernel) ?_⟩
    have WV := WZ.same v1s
    obtain ⟨c2, e2, CV, atv⟩ := WV.caller b0 b1
    rw [sg'] at e2
    cases e2
    have AV := CV.at_
    rw [ekZ] at AV
    refine ⟨_, rfl, _, rfl, L, _, _, _, rfl, rfl, SqL.of WV.at_, atv, cZ.o, C, cZ.dx, _, _, rfl, AV.hp, S.cl, S.state, caF_stt _ _ _ _ _ _ _ _ _, rfl, _, rfl, iteT' (by rw [stZ]; decide +kernel) ?_⟩
    refine ⟨_, rfl, _, rfl, L, _, _, _, rfl, rfl, SqL.of WV.at_, atv, cZ.o, cZ.dx, _, rfl, AV.hp, (AV.no "numbers").2, cZ.o, cZ.dx, b, cZ.st, 0, cZ.ro, cZ.nu, .ref y'.k, .non, cZ.pl, rangeI n, _, [], rfl, AV, fun l4 h4 => ?_⟩
    refine ⟨_, rfl, l4, _, _, .int 2, rfl, rfl, SqL.of upd_same, ?_, rfl, ?_⟩
    · rw [at_ms b0 (by rw [msF_len]; omega), msF_get b0 b1, show cZ.f b = 2 by rw [ecZ]; show updI cX.f b (cX.f b + 1) b = 2; unfold updI; rw [if_pos rfl, fXb]; rfl]
    · exact q _
  · obtain ⟨ht, _⟩ := bT5 t (by rw [hT]; exact List.mem_cons_self ..)
    have tb : t ≠ b := (bK t ht).2.2
    rw [List.set_set] at WX
    rw [nusQ] at fX nl
    have fX5 := f11'.trans fX
    refine ⟨_, rfl, rfl, _, rfl, iteF' rfl ?_⟩
    refine ⟨_, rfl, Nat.zero_le _, fun e he => ?_⟩
    have se := same_upd (o := .lst []) he
    refine ⟨.list ((t :: []).map PyData.int), .list [], dp_ints (se _ _ kl), .lst (SqL.of upd_same) .nil, shaped_ints _, by decide, _, rfl, ?_⟩
    rw [eqv_nilI]
    refine iteF' (decide_eq_false (fun z => nomatch z)) ?_
    have fY := fX5.trans (Same.frn se)
    refine ⟨_, rfl, _, rfl, _, rfl, _, rfl, _, rfl, sa, ns, 4, rfl, sql_frn hS5 (Same.refl _) fY nusF, by decide, bits, fun c6 _ => ⟨c6, rfl, fun b6 => ?_⟩⟩
    exact second l t b6 [] _ _ E0 (WX.same se) rfl (by show updI cQ.f t 1 b = 1; unfold updI; rw [if_neg tb.symm]; exact fQb) (by rw [ecQ]; rfl) fY nl (se _ _ kl) ht (fun m hm => absurd hm List.not_mem_nil) (by simp)
end

end G0
namespace G0
open PySem PySem.Spec PyProof.Rows L2 NdefX ClX
/-! ### the whole -/
theorem made_of {P : Program} {w : World} {K : PySem.W.Frag} {mg : Str → Option Value} {base : Heap} {C CK fI cc cda Dk fS fK : Addr} {ocI dcI pmI ctI clI ccl : Value} {odI anI cldI cdd : Option Addr} {oslI csl ccs : Array (Option Value)} {vs : Array Value} {file : Str} {tf td : Tok} {cdD : ClassData} {fd2 fdK : FuncData}
    (T : BlC71 mg) (S : CalT K C) (mgC : mg "Caller" = some (.ref C)) (mk : PySem.W.makesIn K C = true) (kc : PySem.W.keepIn K (.ref C) = true)
    (FS : Fun K "__init__" "Seat.__init__" s_Seat__init fS fd2)
    (i1 : PySem.W.findIn K (.ref C) "__init__" = some (some (.ref fI))) (i2 : PySem.W.isFn K (.ref fI) = true)
    (i3 : K.lookup fI = some ⟨ocI, odI, .func (PySem.W.ksFn "__init__" "Caller.__init__" (defArgs s_Caller__init) (defBody s_Caller__init) (defScope s_Caller__init) .none (.ref Dk) dcI pmI anI (.ref cda) ctI cc), oslI⟩)
    (i4 : PySem.W.codeIn K (.ref cda) "Caller.__init__" = true) (i5 : K.lookup cc = some ⟨clI, cldI, .cell (some (.ref C)), csl⟩) (i6 : K.lookup cda = some ⟨ccl, cdd, .fields vs, ccs⟩)
    (w7 : vs[2]? = some (.str file tf)) (w8 : ((P.main.file : Str) == file) = true) (w9 : PySem.W.clsIn K C = some cdD) (i10 : PySem.W.nsIn K mainGlobals "super" = some none)
    (w11 : (P.main.scope.names.lookup ("super" : Str)).isSome = false) (i12 : PySem.W.nsIn K cStatics "thirdparty.any" = some none) (w13 : PySem.W.mroIn K C (.ref C) = some true)
    (w14 : PySem.W.ks_superIn K C C "__init__" = some (some (.ref fS))) (i15 : PySem.W.typeIn K (.ref fS) = some (.type "function")) (w16 : PySem.W.fnIn K fS = true)
    (i17 : PySem.W.nsIn K Dk "first" = some (some (.int 0 td)))
    (KT : KeyT K CK) (KKm : Mk K CK fK) (FK : Fun K "__init__" "Key.__init__" s_Key__init fK fdK) (gK : mg "Key" = some (.ref CK)) : MkC P w K mg base C CK := by
  have F2 : FnR P w K mg base CX0 1 fS (spSeat0 C) := fnR_of (ps := ["self", "me"]) (ok_seat0 FS S.cl S.me S.state S.sits) (FS.binds (fun _ _ _ _ _ _ us hl => match us, hl with | [_, _], _ => rfl) )
  have F : SupF P K ["self", "me", "seats", "first", "__class__", "seat"] fI cc cda C (PySem.W.ksFn "__init__" "Caller.__init__" (defArgs s_Caller__init) (defBody s_Caller__init) (defScope s_Caller__init) .none (.ref Dk) dcI pmI anI (.ref cda) ctI cc) (defArgs s_Caller__init) (defScope s_Caller__init) := {
    fun_ := ⟨_, _, _, i3, rfl⟩
    arg := ⟨_, rfl, rfl, by decide +kernel⟩
    code := ⟨_, _, _, _, _, _, i6, w7, w8⟩
    cell := ⟨_, _, _, i5⟩
    cls := ⟨_, w9⟩
    miss := i10
    sup := by decide +kernel
    own := by decide +kernel
    kind := rfl
    top := w11
    any_ := i12 }
  have GK := ok_kinit (P := P) (w := w) (base := base) FK T.list KT
  have bK : Binds K fdK ["self", "of_round", "served", "line"] [] := FK.binds (fun _ _ _ _ _ _ us hl => match us, hl with | [_, _, _, _], _ => rfl) 
  refine ⟨⟨fI, _, [.int 0 td], ok_cinit T i3 i4 i5 F F2 S w13 w14 i15 w16 KKm GK bK gK, .cons ⟨td, rfl⟩ .nil, fun s us X hl => ?_, ⟨fun s us ws X l1 l2 => ?_, fun r1 r2 => r1.append r2⟩, ⟨mk, i1, i2, kc⟩⟩, mgC⟩
  · have l3 : us.length = 3 := by
      rw [List.length_append] at hl
      exact Nat.succ.inj hl
    refine BindsTo.of_looks fun M => KwChain.looks (l := [("first", .int 0 td)]) X (fun q hq => by
      rw [List.mem_singleton.mp hq]
      exact i17) ?_
    match us, l3 with
    | [_, _, _], _ => exact ⟨_, _, _, _, _, _, rfl, rfl, rfl⟩
  · match us, ws, l1, l2 with
    | [_, _, _], [_], _, _ => exact .of_eq rfl
theorem me_of {P : Program} {w : World} {K : PySem.W.Frag} {mg : Str → Option Value} {base : Heap} {C : Addr} {x qual : Str} {st : Stmt} {k : Nat} {ps : List Str} {sp : Sp}
    (F : Fm K C x qual st) (ok : ∀ f fd, Fun K x qual st f fd → FnOk P w K mg base CX0 k f fd ps sp)
    (bd : ∀ (kV doc pm : Value) (an : Option Addr) (cdv ct : Value) (us : List Value), us.length = ps.length →
      bindArgs (PySem.W.fnOf x qual (defArgs st) (defBody st) (defScope st) .none kV doc pm an cdv ct) ⟨us, []⟩ = pure (ps.zip us)) :
    Me P w K mg base C x k ps sp := by
  obtain ⟨f, fd, F, m⟩ := F
  exact ⟨f, fd, ok f fd F, F.binds bd, m⟩
theorem whole {P : Program} {w : World} {K : PySem.W.Frag} {mg : Str → Option Value} {base : Heap} {C CK fK : Addr} (T : BlC71 mg) (MX : mg "max" = none) (S : CalT K C) (KT : KeyT K CK) (MC : MkC P w K mg base C CK)
    (KKm : Mk K CK fK) {fdK : FuncData} (FK : Fun K "__init__" "Key.__init__" s_Key__init fK fdK) (gK : mg "Key" = some (.ref CK))
    (F_law_cell_at : Fn K mg "_law_cell_at" s_law_cell_at) (F_law_bits : Fn K mg "_law_bits" s_law_bits) (F_law_among : Fn K mg "_law_among" s_law_among) (F_law_round_from : Fn K mg "_law_round_from" s_law_round_from) (F_law_asked : Fn K mg "_law_asked" s_law_asked) (F_law_pairs : Fn K mg "_law_pairs" s_law_pairs) (F_law_quiet : Fn K mg "_law_quiet" s_law_quiet) (F_law_first_leaves : Fn K mg "_law_first_leaves" s_law_first_leaves) (F_law_second_leaves : Fn K mg "_law_second_leaves" s_law_second_leaves) (F_law : Fn K mg "law" s_law)
    (K_told : Fm K CK "told" "Key.told" s_Key_told) (K_serve : Fm K CK "serve" "Key.serve" s_Key_serve) (K_line_up : Fm K CK "line_up" "Key.line_up" s_Key_line_up) (K_take_first : Fm K CK "take_first" "Key.take_first" s_Key_take_first) (K_is_due : Fm K CK "_is_due" "Key._is_due" s_Key_is_due) (V_ask : Fm K C "ask" "Caller.ask" s_Caller_ask) (V_leave : Fm K C "leave" "Caller.leave" s_Caller_leave) (V_hear : Fm K C "hear" "Caller.hear" s_Caller_hear) (V_bears : Fm K C "bears" "Caller.bears" s_Caller_bears) (V_numbers : Fm K C "numbers" "Caller.numbers" s_Caller_numbers) (V_to_others : Fm K C "_to_others" "Caller._to_others" s_Caller_to_others) (V_learn : Fm K C "_learn" "Caller._learn" s_Caller_learn) (V_hear_ask : Fm K C "_hear_ask" "Caller._hear_ask" s_Caller_hear_ask) (V_hear_key : Fm K C "_hear_key" "Caller._hear_key" s_Caller_hear_key) (V_hand_on : Fm K C "_hand_on" "Caller._hand_on" s_Caller_hand_on) : Cal P w K mg base "law" 8 ["script"] (spLaw K) := by
  have T1 : BlL72 mg := ⟨T.len⟩
  have T2 : BlT72 mg := ⟨T1, T.tuple, T.range⟩
  have T3 : BlM72 mg := ⟨T.len, MX⟩
  have To := me_of (P := P) (w := w) (mg := mg) (base := base) (ps := ["self"]) K_told (fun f fd F => ok_told F ⟨T.sorted, T.tuple⟩ KT) (fun _ _ _ _ _ _ us hl => match us, hl with | [_], _ => rfl) 
  have Sv := me_of (P := P) (w := w) (mg := mg) (base := base) (ps := ["self", "member", "number"]) K_serve (fun f fd F => ok_serve F KT) (fun _ _ _ _ _ _ us hl => match us, hl with | [_, _, _], _ => rfl) 
  have Du := me_of (P := P) (w := w) (mg := mg) (base := base) (ps := ["self", "member", "number"]) K_is_due (fun f fd F => ok_due F KT) (fun _ _ _ _ _ _ us hl => match us, hl with | [_, _, _], _ => rfl) 
  have Lu := me_of (P := P) (w := w) (mg := mg) (base := base) (ps := ["self", "behind", "roster", "numbers"]) K_line_up (fun f fd F => ok_lineup F KT Du) (fun _ _ _ _ _ _ us hl => match us, hl with | [_, _, _, _], _ => rfl) 
  have Tf := me_of (P := P) (w := w) (mg := mg) (base := base) (ps := ["self"]) K_take_first (fun f fd F => ok_take F T1 KT) (fun _ _ _ _ _ _ us hl => match us, hl with | [_], _ => rfl) 
  have Ot := me_of (P := P) (w := w) (mg := mg) (base := base) (ps := ["self", "letter"]) V_to_others (fun f fd F => ok_tooth F S) (fun _ _ _ _ _ _ us hl => match us, hl with | [_, _], _ => rfl) 
  have Le := me_of (P := P) (w := w) (mg := mg) (base := base) (ps := ["self", "seat", "number"]) V_learn (fun f fd F => ok_learn F T3 S) (fun _ _ _ _ _ _ us hl => match us, hl with | [_, _, _], _ => rfl) 
  have Ho := me_of (P := P) (w := w) (mg := mg) (base := base) (ps := ["self"]) V_hand_on (fun f fd F => ok_handon F S KT Lu Tf To) (fun _ _ _ _ _ _ us hl => match us, hl with | [_], _ => rfl) 
  have As := me_of (P := P) (w := w) (mg := mg) (base := base) (ps := ["self"]) V_ask (fun f fd F => ok_askC F S Ot) (fun _ _ _ _ _ _ us hl => match us, hl with | [_], _ => rfl) 
  have Ha := me_of (P := P) (w := w) (mg := mg) (base := base) (ps := ["self", "sender", "number"]) V_hear_ask (fun f fd F => ok_hearask F S Le Ho) (fun _ _ _ _ _ _ us hl => match us, hl with | [_, _, _], _ => rfl) 
  have GK := ok_kinitT (P := P) (w := w) (mg := mg) (base := base) FK T.list KT
  have bK : Binds K fdK ["self", "of_round", "served", "line"] [] := FK.binds (fun _ _ _ _ _ _ us hl => match us, hl with | [_, _, _, _], _ => rfl) 
  have Hk := me_of (P := P) (w := w) (mg := mg) (base := base) (ps := ["self", "letter"]) V_hear_key (fun f fd F => ok_hearkey F S KKm GK bK gK) (fun _ _ _ _ _ _ us hl => match us, hl with | [_, _], _ => rfl) 
  have Lv := me_of (P := P) (w := w) (mg := mg) (base := base) (ps := ["self"]) V_leave (fun f fd F => ok_leaveC F S KT Sv Ho) (fun _ _ _ _ _ _ us hl => match us, hl with | [_], _ => rfl) 
  have He := me_of (P := P) (w := w) (mg := mg) (base := base) (ps := ["self", "sender", "letter"]) V_hear (fun f fd F => ok_hearC F S Ha Hk) (fun _ _ _ _ _ _ us hl => match us, hl with | [_, _, _], _ => rfl) 
  have Be := me_of (P := P) (w := w) (mg := mg) (base := base) (ps := ["self"]) V_bears (fun f fd F => ok_bears F S KT To) (fun _ _ _ _ _ _ us hl => match us, hl with | [_], _ => rfl) 
  have Nu := me_of (P := P) (w := w) (mg := mg) (base := base) (ps := ["self"]) V_numbers (fun f fd F => ok_numbers F T S) (fun _ _ _ _ _ _ us hl => match us, hl with | [_], _ => rfl) 
  have Ce := ok_cell (P := P) (w := w) (base := base) F_law_cell_at T1
  have Am := ok_among (P := P) (w := w) (base := base) F_law_among
  have Rf := ok_round (P := P) (w := w) (base := base) F_law_round_from T.range T.list
  have Pa := ok_pairs (P := P) (w := w) (base := base) F_law_pairs T2
  have Ad := ok_asked (CK := CK) F_law_asked T2 S As Nu
  have Qu := ok_quiet F_law_quiet S He Nu
  have Fi := ok_first F_law_first_leaves T2 S Rf Pa Lv Be He
  have Se := ok_second F_law_second_leaves T2 S Rf Pa Am Qu Ad Lv Be He
  exact ok_law F_law T2 S MC Ce (ok_bits F_law_bits) Am Qu Ad Fi Se As Nu
theorem all_mk {P : Program} {w : World} {K : PySem.W.Frag} {h : Heap} {mg : Str → Option Value} {fa : Addr}
    {C_Caller : Addr} {C_Seat : Addr} {C_Key : Addr} {f1 : Addr} {od1 an1 : Option Addr} {sl1 : Array (Option Value)} {oc1 kV1 dc1 pm1 cd1 ct1 : Value} {f2 : Addr} {od2 an2 : Option Addr} {sl2 : Array (Option Value)} {oc2 kV2 dc2 pm2 cd2 ct2 : Value} {f3 : Addr} {od3 an3 : Option Addr} {sl3 : Array (Option Value)} {oc3 kV3 dc3 pm3 cd3 ct3 : Value} {f4 : Addr} {od4 an4 : Option Addr} {sl4 : Array (Option Value)} {oc4 kV4 dc4 pm4 cd4 ct4 : Value} {f5 : Addr} {od5 an5 : Option Addr} {sl5 : Array (Option Value)} {oc5 kV5 dc5 pm5 cd5 ct5 : Value} {f6 : Addr} {od6 an6 : Option Addr} {sl6 : Array (Option Value)} {oc6 kV6 dc6 pm6 cd6 ct6 : Value} {f7 : Addr} {od7 an7 : Option Addr} {sl7 : Array (Option Value)} {oc7 kV7 dc7 pm7 cd7 ct7 : Value} {f8 : Addr} {od8 an8 : Option Addr} {sl8 : Array (Option Value)} {oc8 kV8 dc8 pm8 cd8 ct8 : Value} {f9 : Addr} {od9 an9 : Option Addr} {sl9 : Array (Option Value)} {oc9 kV9 dc9 pm9 cd9 ct9 : Value} {f10 : Addr} {od10 an10 : Option Addr} {sl10 : Array (Option Value)} {oc10 kV10 dc10 pm10 cd10 ct10 : Value} {f11 : Addr} {od11 an11 : Option Addr} {sl11 : Array (Option Value)} {oc11 kV11 dc11 pm11 cd11 ct11 : Value} {f12 : Addr} {od12 an12 : Option Addr} {sl12 : Array (Option Value)} {oc12 kV12 dc12 pm12 cd12 ct12 : Value} {f13 : Addr} {od13 an13 : Option Addr} {sl13 : Array (Option Value)} {oc13 kV13 dc13 pm13 cd13 ct13 : Value} {f14 : Addr} {od14 an14 : Option Addr} {sl14 : Array (Option Value)} {oc14 kV14 dc14 pm14 cd14 ct14 : Value} {f15 : Addr} {od15 an15 : Option Addr} {sl15 : Array (Option Value)} {oc15 kV15 dc15 pm15 cd15 ct15 : Value} {f16 : Addr} {od16 an16 : Option Addr} {sl16 : Array (Option Value)} {oc16 kV16 dc16 pm16 cd16 ct16 : Value} {f17 : Addr} {od17 an17 : Option Addr} {sl17 : Array (Option Value)} {oc17 kV17 dc17 pm17 cd17 ct17 : Value} {f18 : Addr} {od18 an18 : Option Addr} {sl18 : Array (Option Value)} {oc18 kV18 dc18 pm18 cd18 ct18 : Value} {f19 : Addr} {od19 an19 : Option Addr} {sl19 : Array (Option Value)} {oc19 kV19 dc19 pm19 cd19 ct19 : Value} {f20 : Addr} {od20 an20 : Option Addr} {sl20 : Array (Option Value)} {oc20 kV20 dc20 pm20 cd20 ct20 : Value} {f21 : Addr} {od21 an21 : Option Addr} {sl21 : Array (Option Value)} {oc21 kV21 dc21 pm21 cd21 ct21 : Value} {f22 : Addr} {od22 an22 : Option Addr} {sl22 : Array (Option Value)} {oc22 kV22 dc22 pm22 cd22 ct22 : Value} {f23 : Addr} {od23 an23 : Option Addr} {sl23 : Array (Option Value)} {oc23 kV23 dc23 pm23 cd23 ct23 : Value} {f24 : Addr} {od24 an24 : Option Addr} {sl24 : Array (Option Value)} {oc24 kV24 dc24 pm24 cd24 ct24 : Value} {f25 : Addr} {od25 an25 : Option Addr} {sl25 : Array (Option Value)} {oc25 kV25 dc25 pm25 cd25 ct25 : Value} {f26 : Addr} {od26 an26 : Option Addr} {sl26 : Array (Option Value)} {oc26 kV26 dc26 pm26 cd26 ct26 : Value} {f27 : Addr} {od27 an27 : Option Addr} {sl27 : Array (Option Value)} {oc27 kV27 dc27 pm27 cd27 ct27 : Value} {fI cc cda Dk : Addr} {ocI dcI pmI ctI clI ccl : Value} {odI anI cldI cdd : Option Addr} {oslI csl ccs : Array (Option Value)} {vs : Array Value} {file : Str} {tf td : Tok} {cdD : ClassData}
    (X : K.In h) (G : h.Ns mainGlobals mg) (hfa : mg "law" = some (.ref fa))
    (aC_Caller : PySem.W.nsIn K mainGlobals "Caller" = some (some (.ref C_Caller)))
    (pg_Caller : PySem.W.plainGet K C_Caller Str.empty = true)
    (hd_Caller : PySem.W.hasDictIn K C_Caller = true)
    (po_Caller : PySem.W.plainOver K C_Caller = true)
    (sa_Caller : PySem.W.findIn K (.ref C_Caller) "__setattr__" = some (some (.builtin "object.__setattr__")))
    (mk_Caller : PySem.W.makesIn K C_Caller = true)
    (kc_Caller : PySem.W.keepIn K (.ref C_Caller) = true)
    (aC_Seat : PySem.W.nsIn K mainGlobals "Seat" = some (some (.ref C_Seat)))
    (pg_Seat : PySem.W.plainGet K C_Seat Str.empty = true)
    (hd_Seat : PySem.W.hasDictIn K C_Seat = true)
    (po_Seat : PySem.W.plainOver K C_Seat = true)
    (sa_Seat : PySem.W.findIn K (.ref C_Seat) "__setattr__" = some (some (.builtin "object.__setattr__")))
    (mk_Seat : PySem.W.makesIn K C_Seat = true)
    (kc_Seat : PySem.W.keepIn K (.ref C_Seat) = true)
    (aC_Key : PySem.W.nsIn K mainGlobals "Key" = some (some (.ref C_Key)))
    (pg_Key : PySem.W.plainGet K C_Key Str.empty = true)
    (hd_Key : PySem.W.hasDictIn K C_Key = true)
    (po_Key : PySem.W.plainOver K C_Key = true)
    (sa_Key : PySem.W.findIn K (.ref C_Key) "__setattr__" = some (some (.builtin "object.__setattr__")))
    (mk_Key : PySem.W.makesIn K C_Key = true)
    (kc_Key : PySem.W.keepIn K (.ref C_Key) = true)
    (a1 : PySem.W.nsIn K mainGlobals "_law_cell_at" = some (some (.ref f1)))
    (l1 : K.lookup f1 = some ⟨oc1, od1, .func (PySem.W.fnOf "_law_cell_at" "_law_cell_at" (defArgs s_law_cell_at) (defBody s_law_cell_at) (defScope s_law_cell_at) .none kV1 dc1 pm1 an1 cd1 ct1), sl1⟩)
    (c1 : PySem.W.codeIn K cd1 "_law_cell_at" = true)
    (k1 : PySem.W.keepIn K (.ref f1) = true)
    (a2 : PySem.W.nsIn K mainGlobals "_law_bits" = some (some (.ref f2)))
    (l2 : K.lookup f2 = some ⟨oc2, od2, .func (PySem.W.fnOf "_law_bits" "_law_bits" (defArgs s_law_bits) (defBody s_law_bits) (defScope s_law_bits) .none kV2 dc2 pm2 an2 cd2 ct2), sl2⟩)
    (c2 : PySem.W.codeIn K cd2 "_law_bits" = true)
    (k2 : PySem.W.keepIn K (.ref f2) = true)
    (a3 : PySem.W.nsIn K mainGlobals "_law_among" = some (some (.ref f3)))
    (l3 : K.lookup f3 = some ⟨oc3, od3, .func (PySem.W.fnOf "_law_among" "_law_among" (defArgs s_law_among) (defBody s_law_among) (defScope s_law_among) .none kV3 dc3 pm3 an3 cd3 ct3), sl3⟩)
    (c3 : PySem.W.codeIn K cd3 "_law_among" = true)
    (k3 : PySem.W.keepIn K (.ref f3) = true)
    (a4 : PySem.W.nsIn K mainGlobals "_law_round_from" = some (some (.ref f4)))
    (l4 : K.lookup f4 = some ⟨oc4, od4, .func (PySem.W.fnOf "_law_round_from" "_law_round_from" (defArgs s_law_round_from) (defBody s_law_round_from) (defScope s_law_round_from) .none kV4 dc4 pm4 an4 cd4 ct4), sl4⟩)
    (c4 : PySem.W.codeIn K cd4 "_law_round_from" = true)
    (k4 : PySem.W.keepIn K (.ref f4) = true)
    (a5 : PySem.W.nsIn K mainGlobals "_law_asked" = some (some (.ref f5)))
    (l5 : K.lookup f5 = some ⟨oc5, od5, .func (PySem.W.fnOf "_law_asked" "_law_asked" (defArgs s_law_asked) (defBody s_law_asked) (defScope s_law_asked) .none kV5 dc5 pm5 an5 cd5 ct5), sl5⟩)
    (c5 : PySem.W.codeIn K cd5 "_law_asked" = true)
    (k5 : PySem.W.keepIn K (.ref f5) = true)
    (a6 : PySem.W.nsIn K mainGlobals "_law_pairs" = some (some (.ref f6)))
    (l6 : K.lookup f6 = some ⟨oc6, od6, .func (PySem.W.fnOf "_law_pairs" "_law_pairs" (defArgs s_law_pairs) (defBody s_law_pairs) (defScope s_law_pairs) .none kV6 dc6 pm6 an6 cd6 ct6), sl6⟩)
    (c6 : PySem.W.codeIn K cd6 "_law_pairs" = true)
    (k6 : PySem.W.keepIn K (.ref f6) = true)
    (a7 : PySem.W.nsIn K mainGlobals "_law_quiet" = some (some (.ref f7)))
    (l7 : K.lookup f7 = some ⟨oc7, od7, .func (PySem.W.fnOf "_law_quiet" "_law_quiet" (defArgs s_law_quiet) (defBody s_law_quiet) (defScope s_law_quiet) .none kV7 dc7 pm7 an7 cd7 ct7), sl7⟩)
    (c7 : PySem.W.codeIn K cd7 "_law_quiet" = true)
    (k7 : PySem.W.keepIn K (.ref f7) = true)
    (a8 : PySem.W.nsIn K mainGlobals "_law_first_leaves" = some (some (.ref f8)))
    (l8 : K.lookup f8 = some ⟨oc8, od8, .func (PySem.W.fnOf "_law_first_leaves" "_law_first_leaves" (defArgs s_law_first_leaves) (defBody s_law_first_leaves) (defScope s_law_first_leaves) .none kV8 dc8 pm8 an8 cd8 ct8), sl8⟩)
    (c8 : PySem.W.codeIn K cd8 "_law_first_leaves" = true)
    (k8 : PySem.W.keepIn K (.ref f8) = true)
    (a9 : PySem.W.nsIn K mainGlobals "_law_second_leaves" = some (some (.ref f9)))
    (l9 : K.lookup f9 = some ⟨oc9, od9, .func (PySem.W.fnOf "_law_second_leaves" "_law_second_leaves" (defArgs s_law_second_leaves) (defBody s_law_second_leaves) (defScope s_law_second_leaves) .none kV9 dc9 pm9 an9 cd9 ct9), sl9⟩)
    (c9 : PySem.W.codeIn K cd9 "_law_second_leaves" = true)
    (k9 : PySem.W.keepIn K (.ref f9) = true)
    (a10 : PySem.W.nsIn K mainGlobals "law" = some (some (.ref f10)))
    (l10 : K.lookup f10 = some ⟨oc10, od10, .func (PySem.W.fnOf "law" "law" (defArgs s_law) (defBody s_law) (defScope s_law) .none kV10 dc10 pm10 an10 cd10 ct10), sl10⟩)
    (c10 : PySem.W.codeIn K cd10 "law" = true)
    (k10 : PySem.W.keepIn K (.ref f10) = true)
    (a11 : PySem.W.findIn K (.ref C_Seat) "__init__" = some (some (.ref f11)))
    (i11 : PySem.W.isFn K (.ref f11) = true)
    (l11 : K.lookup f11 = some ⟨oc11, od11, .func (PySem.W.fnOf "__init__" "Seat.__init__" (defArgs s_Seat__init) (defBody s_Seat__init) (defScope s_Seat__init) .none kV11 dc11 pm11 an11 cd11 ct11), sl11⟩)
    (c11 : PySem.W.codeIn K cd11 "Seat.__init__" = true)
    (k11 : PySem.W.keepIn K (.ref f11) = true)
    (a12 : PySem.W.findIn K (.ref C_Key) "__init__" = some (some (.ref f12)))
    (i12 : PySem.W.isFn K (.ref f12) = true)
    (l12 : K.lookup f12 = some ⟨oc12, od12, .func (PySem.W.fnOf "__init__" "Key.__init__" (defArgs s_Key__init) (defBody s_Key__init) (defScope s_Key__init) .none kV12 dc12 pm12 an12 cd12 ct12), sl12⟩)
    (c12 : PySem.W.codeIn K cd12 "Key.__init__" = true)
    (k12 : PySem.W.keepIn K (.ref f12) = true)
    (a13 : PySem.W.findIn K (.ref C_Key) "told" = some (some (.ref f13)))
    (i13 : PySem.W.isFn K (.ref f13) = true)
    (l13 : K.lookup f13 = some ⟨oc13, od13, .func (PySem.W.fnOf "told" "Key.told" (defArgs s_Key_told) (defBody s_Key_told) (defScope s_Key_told) .none kV13 dc13 pm13 an13 cd13 ct13), sl13⟩)
    (c13 : PySem.W.codeIn K cd13 "Key.told" = true)
    (k13 : PySem.W.keepIn K (.ref f13) = true)
    (a14 : PySem.W.findIn K (.ref C_Key) "serve" = some (some (.ref f14)))
    (i14 : PySem.W.isFn K (.ref f14) = true)
    (l14 : K.lookup f14 = some ⟨oc14, od14, .func (PySem.W.fnOf "serve" "Key.serve" (defArgs s_Key_serve) (defBody s_Key_serve) (defScope s_Key_serve) .none kV14 dc14 pm14 an14 cd14 ct14), sl14⟩)
    (c14 : PySem.W.codeIn K cd14 "Key.serve" = true)
    (k14 : PySem.W.keepIn K (.ref f14) = true)
    (a15 : PySem.W.findIn K (.ref C_Key) "line_up" = some (some (.ref f15)))
    (i15 : PySem.W.isFn K (.ref f15) = true)
    (l15 : K.lookup f15 = some ⟨oc15, od15, .func (PySem.W.fnOf "line_up" "Key.line_up" (defArgs s_Key_line_up) (defBody s_Key_line_up) (defScope s_Key_line_up) .none kV15 dc15 pm15 an15 cd15 ct15), sl15⟩)
    (c15 : PySem.W.codeIn K cd15 "Key.line_up" = true)
    (k15 : PySem.W.keepIn K (.ref f15) = true)
    (a16 : PySem.W.findIn K (.ref C_Key) "take_first" = some (some (.ref f16)))
    (i16 : PySem.W.isFn K (.ref f16) = true)
    (l16 : K.lookup f16 = some ⟨oc16, od16, .func (PySem.W.fnOf "take_first" "Key.take_first" (defArgs s_Key_take_first) (defBody s_Key_take_first) (defScope s_Key_take_first) .none kV16 dc16 pm16 an16 cd16 ct16), sl16⟩)
    (c16 : PySem.W.codeIn K cd16 "Key.take_first" = true)
    (k16 : PySem.W.keepIn K (.ref f16) = true)
    (a17 : PySem.W.findIn K (.ref C_Key) "_is_due" = some (some (.ref f17)))
    (i17 : PySem.W.isFn K (.ref f17) = true)
    (l17 : K.lookup f17 = some ⟨oc17, od17, .func (PySem.W.fnOf "_is_due" "Key._is_due" (defArgs s_Key_is_due) (defBody s_Key_is_due) (defScope s_Key_is_due) .none kV17 dc17 pm17 an17 cd17 ct17), sl17⟩)
    (c17 : PySem.W.codeIn K cd17 "Key._is_due" = true)
    (k17 : PySem.W.keepIn K (.ref f17) = true)
    (a18 : PySem.W.findIn K (.ref C_Caller) "ask" = some (some (.ref f18)))
    (i18 : PySem.W.isFn K (.ref f18) = true)
    (l18 : K.lookup f18 = some ⟨oc18, od18, .func (PySem.W.fnOf "ask" "Caller.ask" (defArgs s_Caller_ask) (defBody s_Caller_ask) (defScope s_Caller_ask) .none kV18 dc18 pm18 an18 cd18 ct18), sl18⟩)
    (c18 : PySem.W.codeIn K cd18 "Caller.ask" = true)
    (k18 : PySem.W.keepIn K (.ref f18) = true)
    (a19 : PySem.W.findIn K (.ref C_Caller) "leave" = some (some (.ref f19)))
    (i19 : PySem.W.isFn K (.ref f19) = true)
    (l19 : K.lookup f19 = some ⟨oc19, od19, .func (PySem.W.fnOf "leave" "Caller.leave" (defArgs s_Caller_leave) (defBody s_Caller_leave) (defScope s_Caller_leave) .none kV19 dc19 pm19 an19 cd19 ct19), sl19⟩)
    (c19 : PySem.W.codeIn K cd19 "Caller.leave" = true)
    (k19 : PySem.W.keepIn K (.ref f19) = true)
    (a20 : PySem.W.findIn K (.ref C_Caller) "hear" = some (some (.ref f20)))
    (i20 : PySem.W.isFn K (.ref f20) = true)
    (l20 : K.lookup f20 = some ⟨oc20, od20, .func (PySem.W.fnOf "hear" "Caller.hear" (defArgs s_Caller_hear) (defBody s_Caller_hear) (defScope s_Caller_hear) .none kV20 dc20 pm20 an20 cd20 ct20), sl20⟩)
    (c20 : PySem.W.codeIn K cd20 "Caller.hear" = true)
    (k20 : PySem.W.keepIn K (.ref f20) = true)
    (a21 : PySem.W.findIn K (.ref C_Caller) "bears" = some (some (.ref f21)))
    (i21 : PySem.W.isFn K (.ref f21) = true)
    (l21 : K.lookup f21 = some ⟨oc21, od21, .func (PySem.W.fnOf "bears" "Caller.bears" (defArgs s_Caller_bears) (defBody s_Caller_bears) (defScope s_Caller_bears) .none kV21 dc21 pm21 an21 cd21 ct21), sl21⟩)
    (c21 : PySem.W.codeIn K cd21 "Caller.bears" = true)
    (k21 : PySem.W.keepIn K (.ref f21) = true)
    (a22 : PySem.W.findIn K (.ref C_Caller) "numbers" = some (some (.ref f22)))
    (i22 : PySem.W.isFn K (.ref f22) = true)
    (l22 : K.lookup f22 = some ⟨oc22, od22, .func (PySem.W.fnOf "numbers" "Caller.numbers" (defArgs s_Caller_numbers) (defBody s_Caller_numbers) (defScope s_Caller_numbers) .none kV22 dc22 pm22 an22 cd22 ct22), sl22⟩)
    (c22 : PySem.W.codeIn K cd22 "Caller.numbers" = true)
    (k22 : PySem.W.keepIn K (.ref f22) = true)
    (a23 : PySem.W.findIn K (.ref C_Caller) "_to_others" = some (some (.ref f23)))
    (i23 : PySem.W.isFn K (.ref f23) = true)
    (l23 : K.lookup f23 = some ⟨oc23, od23, .func (PySem.W.fnOf "_to_others" "Caller._to_others" (defArgs s_Caller_to_others) (defBody s_Caller_to_others) (defScope s_Caller_to_others) .none kV23 dc23 pm23 an23 cd23 ct23), sl23⟩)
    (c23 : PySem.W.codeIn K cd23 "Caller._to_others" = true)
    (k23 : PySem.W.keepIn K (.ref f23) = true)
    (a24 : PySem.W.findIn K (.ref C_Caller) "_learn" = some (some (.ref f24)))
    (i24 : PySem.W.isFn K (.ref f24) = true)
    (l24 : K.lookup f24 = some ⟨oc24, od24, .func (PySem.W.fnOf "_learn" "Caller._learn" (defArgs s_Caller_learn) (defBody s_Caller_learn) (defScope s_Caller_learn) .none kV24 dc24 pm24 an24 cd24 ct24), sl24⟩)
    (c24 : PySem.W.codeIn K cd24 "Caller._learn" = true)
    (k24 : PySem.W.keepIn K (.ref f24) = true)
    (a25 : PySem.W.findIn K (.ref C_Caller) "_hear_ask" = some (some (.ref f25)))
    (i25 : PySem.W.isFn K (.ref f25) = true)
    (l25 : K.lookup f25 = some ⟨oc25, od25, .func (PySem.W.fnOf "_hear_ask" "Caller._hear_ask" (defArgs s_Caller_hear_ask) (defBody s_Caller_hear_ask) (defScope s_Caller_hear_ask) .none kV25 dc25 pm25 an25 cd25 ct25), sl25⟩)
    (c25 : PySem.W.codeIn K cd25 "Caller._hear_ask" = true)
    (k25 : PySem.W.keepIn K (.ref f25) = true)
    (a26 : PySem.W.findIn K (.ref C_Caller) "_hear_key" = some (some (.ref f26)))
    (i26 : PySem.W.isFn K (.ref f26) = true)
    (l26 : K.lookup f26 = some ⟨oc26, od26, .func (PySem.W.fnOf "_hear_key" "Caller._hear_key" (defArgs s_Caller_hear_key) (defBody s_Caller_hear_key) (defScope s_Caller_hear_key) .none kV26 dc26 pm26 an26 cd26 ct26), sl26⟩)
    (c26 : PySem.W.codeIn K cd26 "Caller._hear_key" = true)
    (k26 : PySem.W.keepIn K (.ref f26) = true)
    (a27 : PySem.W.findIn K (.ref C_Caller) "_hand_on" = some (some (.ref f27)))
    (i27 : PySem.W.isFn K (.ref f27) = true)
    (l27 : K.lookup f27 = some ⟨oc27, od27, .func (PySem.W.fnOf "_hand_on" "Caller._hand_on" (defArgs s_Caller_hand_on) (defBody s_Caller_hand_on) (defScope s_Caller_hand_on) .none kV27 dc27 pm27 an27 cd27 ct27), sl27⟩)
    (c27 : PySem.W.codeIn K cd27 "Caller._hand_on" = true)
    (k27 : PySem.W.keepIn K (.ref f27) = true)
    (n_Caller_me : PySem.W.findIn K (.ref C_Caller) "me" = some none)
    (n_Caller_state : PySem.W.findIn K (.ref C_Caller) "state" = some none)
    (n_Caller_sits : PySem.W.findIn K (.ref C_Caller) "sits" = some none)
    (n_Caller_round : PySem.W.findIn K (.ref C_Caller) "round" = some none)
    (n_Caller__roster : PySem.W.findIn K (.ref C_Caller) "_roster" = some none)
    (n_Caller__numbers : PySem.W.findIn K (.ref C_Caller) "_numbers" = some none)
    (n_Caller__key : PySem.W.findIn K (.ref C_Caller) "_key" = some none)
    (n_Caller__begun : PySem.W.findIn K (.ref C_Caller) "_begun" = some none)
    (n_Caller__pledges : PySem.W.findIn K (.ref C_Caller) "_pledges" = some none)
    (n_Key_round : PySem.W.findIn K (.ref C_Key) "round" = some none)
    (n_Key__served : PySem.W.findIn K (.ref C_Key) "_served" = some none)
    (n_Key__line : PySem.W.findIn K (.ref C_Key) "_line" = some none)
    (i1 : PySem.W.findIn K (.ref C_Caller) "__init__" = some (some (.ref fI)))
    (i2 : PySem.W.isFn K (.ref fI) = true)
    (i3 : K.lookup fI = some ⟨ocI, odI, .func (PySem.W.ksFn "__init__" "Caller.__init__" (defArgs s_Caller__init) (defBody s_Caller__init) (defScope s_Caller__init) .none (.ref Dk) dcI pmI anI (.ref cda) ctI cc), oslI⟩)
    (ii4 : PySem.W.codeIn K (.ref cda) "Caller.__init__" = true)
    (ii5 : K.lookup cc = some ⟨clI, cldI, .cell (some (.ref C_Caller)), csl⟩)
    (ii6 : K.lookup cda = some ⟨ccl, cdd, .fields vs, ccs⟩)
    (w7 : vs[2]? = some (.str file tf))
    (w8 : ((P.main.file : Str) == file) = true)
    (w9 : PySem.W.clsIn K C_Caller = some cdD)
    (ii10 : PySem.W.nsIn K mainGlobals "super" = some none)
    (w11 : (P.main.scope.names.lookup ("super" : Str)).isSome = false)
    (ii12 : PySem.W.nsIn K cStatics "thirdparty.any" = some none)
    (w13 : PySem.W.mroIn K C_Caller (.ref C_Caller) = some true)
    (w14 : PySem.W.ks_superIn K C_Caller C_Caller "__init__" = some (some (.ref f11)))
    (ii15 : PySem.W.typeIn K (.ref f11) = some (.type "function"))
    (w16 : PySem.W.fnIn K f11 = true)
    (ii17 : PySem.W.nsIn K Dk "first" = some (some (.int 0 td)))
    (ik1 : PySem.W.findIn K (.ref C_Key) "__init__" = some (some (.ref f12)))
    (ik2 : PySem.W.isFn K (.ref f12) = true)
    (b_len : PySem.W.nsIn K mainGlobals "len" = some none)
    (b_range : PySem.W.nsIn K mainGlobals "range" = some none)
    (b_tuple : PySem.W.nsIn K mainGlobals "tuple" = some none)
    (b_list : PySem.W.nsIn K mainGlobals "list" = some none)
    (b_isinstance : PySem.W.nsIn K mainGlobals "isinstance" = some none)
    (b_bool : PySem.W.nsIn K mainGlobals "bool" = some none)
    (b_sorted : PySem.W.nsIn K mainGlobals "sorted" = some none)
    (b_int : PySem.W.nsIn K mainGlobals "int" = some none)
    (b_max : PySem.W.nsIn K mainGlobals "max" = some none) :
    ∃ fd : FuncData, (∀ (s : Shared) (v : Value), BindsTo s fd ⟨[v], []⟩ [("script", v)]) ∧
      ∀ base : Heap, K.In base → base.Ns mainGlobals mg → FnG P w K mg base CX0 8 fa fd ["script"] (spLaw K) := by
  have F_law_cell_at : Fn K mg "_law_cell_at" s_law_cell_at := fn_top X G a1 l1 c1 k1
  have F_law_bits : Fn K mg "_law_bits" s_law_bits := fn_top X G a2 l2 c2 k2
  have F_law_among : Fn K mg "_law_among" s_law_among := fn_top X G a3 l3 c3 k3
  have F_law_round_from : Fn K mg "_law_round_from" s_law_round_from := fn_top X G a4 l4 c4 k4
  have F_law_asked : Fn K mg "_law_asked" s_law_asked := fn_top X G a5 l5 c5 k5
  have F_law_pairs : Fn K mg "_law_pairs" s_law_pairs := fn_top X G a6 l6 c6 k6
  have F_law_quiet : Fn K mg "_law_quiet" s_law_quiet := fn_top X G a7 l7 c7 k7
  have F_law_first_leaves : Fn K mg "_law_first_leaves" s_law_first_leaves := fn_top X G a8 l8 c8 k8
  have F_law_second_leaves : Fn K mg "_law_second_leaves" s_law_second_leaves := fn_top X G a9 l9 c9 k9
  have F_law : Fn K mg "law" s_law := fn_top X G a10 l10 c10 k10
  have M_Seat__init : Fm K C_Seat "__init__" "Seat.__init__" s_Seat__init := fm_top a11 i11 l11 c11 k11
  have M_Key__init : Fm K C_Key "__init__" "Key.__init__" s_Key__init := fm_top a12 i12 l12 c12 k12
  have M_Key_told : Fm K C_Key "told" "Key.told" s_Key_told := fm_top a13 i13 l13 c13 k13
  have M_Key_serve : Fm K C_Key "serve" "Key.serve" s_Key_serve := fm_top a14 i14 l14 c14 k14
  have M_Key_line_up : Fm K C_Key "line_up" "Key.line_up" s_Key_line_up := fm_top a15 i15 l15 c15 k15
  have M_Key_take_first : Fm K C_Key "take_first" "Key.take_first" s_Key_take_first := fm_top a16 i16 l16 c16 k16
  have M_Key_is_due : Fm K C_Key "_is_due" "Key._is_due" s_Key_is_due := fm_top a17 i17 l17 c17 k17
  have M_Caller_ask : Fm K C_Caller "ask" "Caller.ask" s_Caller_ask := fm_top a18 i18 l18 c18 k18
  have M_Caller_leave : Fm K C_Caller "leave" "Caller.leave" s_Caller_leave := fm_top a19 i19 l19 c19 k19
  have M_Caller_hear : Fm K C_Caller "hear" "Caller.hear" s_Caller_hear := fm_top a20 i20 l20 c20 k20
  have M_Caller_bears : Fm K C_Caller "bears" "Caller.bears" s_Caller_bears := fm_top a21 i21 l21 c21 k21
  have M_Caller_numbers : Fm K C_Caller "numbers" "Caller.numbers" s_Caller_numbers := fm_top a22 i22 l22 c22 k22
  have M_Caller_to_others : Fm K C_Caller "_to_others" "Caller._to_others" s_Caller_to_others := fm_top a23 i23 l23 c23 k23
  have M_Caller_learn : Fm K C_Caller "_learn" "Caller._learn" s_Caller_learn := fm_top a24 i24 l24 c24 k24
  have M_Caller_hear_ask : Fm K C_Caller "_hear_ask" "Caller._hear_ask" s_Caller_hear_ask := fm_top a25 i25 l25 c25 k25
  have M_Caller_hear_key : Fm K C_Caller "_hear_key" "Caller._hear_key" s_Caller_hear_key := fm_top a26 i26 l26 c26 k26
  have M_Caller_hand_on : Fm K C_Caller "_hand_on" "Caller._hand_on" s_Caller_hand_on := fm_top a27 i27 l27 c27 k27
  have B_len := PySem.W.mg_none_of X G b_len
  have B_range := PySem.W.mg_none_of X G b_range
  have B_tuple := PySem.W.mg_none_of X G b_tuple
  have B_list := PySem.W.mg_none_of X G b_list
  have B_isinstance := PySem.W.mg_none_of X G b_isinstance
  have B_bool := PySem.W.mg_none_of X G b_bool
  have B_sorted := PySem.W.mg_none_of X G b_sorted
  have B_int := PySem.W.mg_none_of X G b_int
  have B_max := PySem.W.mg_none_of X G b_max
  have T_Caller : Cls K C_Caller := ⟨pg_Caller, hd_Caller, po_Caller, sa_Caller⟩
  have G_Caller := PySem.W.mg_of X G aC_Caller
  have T_Seat : Cls K C_Seat := ⟨pg_Seat, hd_Seat, po_Seat, sa_Seat⟩
  have G_Seat := PySem.W.mg_of X G aC_Seat
  have T_Key : Cls K C_Key := ⟨pg_Key, hd_Key, po_Key, sa_Key⟩
  have G_Key := PySem.W.mg_of X G aC_Key
  have S : CalT K C_Caller := ⟨T_Caller, n_Caller_me, n_Caller_state, n_Caller_sits, n_Caller_round, n_Caller__roster, n_Caller__numbers, n_Caller__key, n_Caller__begun, n_Caller__pledges⟩
  have KT : KeyT K C_Key := ⟨T_Key, n_Key_round, n_Key__served, n_Key__line⟩
  have T : BlC71 mg := ⟨B_len, B_range, B_list, B_tuple, B_sorted, B_isinstance, B_int, B_bool⟩
  exact law_end F_law hfa (fun _ _ _ _ _ _ s v => .of_eq rfl) fun base _ _ => whole T B_max S KT
    (made_of T S G_Caller mk_Caller kc_Caller (fun_mk l11 c11 k11) i1 i2 i3 ii4 ii5 ii6 w7 w8 w9 ii10 w11 ii12 w13 w14 ii15 w16 ii17 KT ⟨mk_Key, ik1, ik2, kc_Key⟩ (fun_mk l12 c12 k12) G_Key)
    ⟨mk_Key, ik1, ik2, kc_Key⟩ (fun_mk l12 c12 k12) G_Key
    F_law_cell_at F_law_bits F_law_among F_law_round_from F_law_asked F_law_pairs F_law_quiet F_law_first_leaves F_law_second_leaves F_law
    M_Key_told M_Key_serve M_Key_line_up M_Key_take_first M_Key_is_due M_Caller_ask M_Caller_leave M_Caller_hear M_Caller_bears M_Caller_numbers M_Caller_to_others M_Caller_learn M_Caller_hear_ask M_Caller_hear_key M_Caller_hand_on
end G0
open PySem PySem.W PyProof.Rows in
set_option maxRecDepth 100000 in
set_option maxHeartbeats 0 in
theorem PySem.Challenge.cw_soleseat_k72_handed_on_holds : PySem.Challenge.rw_soleseat_k72_handed_on.Holds := by
  w_on; o_law; k_head; (case hw => w_witness2)
  k_fill
  refine G0.walk_ofGB (l := PySem.Challenge.rw_soleseat_k72_handed_on) (n := 63) (k := 8) (x := "script") (sp := G0.spLaw) rfl (by decide) rfl ⟨rfl, by decide, by decide⟩ (fun w h Y => PySem.W.kIn_of Y) ?F (fun K H a ns hl bits _ hS => ⟨a, ns, rfl, hS, bits, fun _ => rfl⟩)
  case F =>
    intro w mg fa h KX G hmg
    refine' G0.all_mk KX G hmg ?aC_Caller ?pg_Caller ?hd_Caller ?po_Caller ?sa_Caller ?mk_Caller ?kc_Caller ?aC_Seat ?pg_Seat ?hd_Seat ?po_Seat ?sa_Seat ?mk_Seat ?kc_Seat ?aC_Key ?pg_Key ?hd_Key ?po_Key ?sa_Key ?mk_Key ?kc_Key ?a1 ?l1 ?c1 ?k1 ?a2 ?l2 ?c2 ?k2 ?a3 ?l3 ?c3 ?k3 ?a4 ?l4 ?c4 ?k4 ?a5 ?l5 ?c5 ?k5 ?a6 ?l6 ?c6 ?k6 ?a7 ?l7 ?c7 ?k7 ?a8 ?l8 ?c8 ?k8 ?a9 ?l9 ?c9 ?k9 ?a10 ?l10 ?c10 ?k10 ?a11 ?i11 ?l11 ?c11 ?k11 ?a12 ?i12 ?l12 ?c12 ?k12 ?a13 ?i13 ?l13 ?c13 ?k13 ?a14 ?i14 ?l14 ?c14 ?k14 ?a15 ?i15 ?l15 ?c15 ?k15 ?a16 ?i16 ?l16 ?c16 ?k16 ?a17 ?i17 ?l17 ?c17 ?k17 ?a18 ?i18 ?l18 ?c18 ?k18 ?a19 ?i19 ?l19 ?c19 ?k19 ?a20 ?i20 ?l20 ?c20 ?k20 ?a21 ?i21 ?l21 ?c21 ?k21 ?a22 ?i22 ?l22 ?c22 ?k22 ?a23 ?i23 ?l23 ?c23 ?k23 ?a24 ?i24 ?l24 ?c24 ?k24 ?a25 ?i25 ?l25 ?c25 ?k25 ?a26 ?i26 ?l26 ?c26 ?k26 ?a27 ?i27 ?l27 ?c27 ?k27 ?n_Caller_me ?n_Caller_state ?n_Caller_sits ?n_Caller_round ?n_Caller__roster ?n_Caller__numbers ?n_Caller__key ?n_Caller__begun ?n_Caller__pledges ?n_Key_round ?n_Key__served ?n_Key__line ?i1 ?i2 ?i3 ?ii4 ?ii5 ?ii6 ?w7 ?w8 ?w9 ?ii10 ?w11 ?ii12 ?w13 ?w14 ?ii15 ?w16 ?ii17 ?ik1 ?ik2 ?b_len ?b_range ?b_tuple ?b_list ?b_isinstance ?b_bool ?b_sorted ?b_int ?b_max
    (case aC_Caller => k_is)
    (case pg_Caller => k_is)
    (case hd_Caller => k_is)
    (case po_Caller => k_is)
    (case sa_Caller => k_is)
    (case mk_Caller => k_is)
    (case kc_Caller => k_is)
    (case aC_Seat => k_is)
    (case pg_Seat => k_is)
    (case hd_Seat => k_is)
    (case po_Seat => k_is)
    (case sa_Seat => k_is)
    (case mk_Seat => k_is)
    (case kc_Seat => k_is)
    (case aC_Key => k_is)
    (case pg_Key => k_is)
    (case hd_Key => k_is)
    (case po_Key => k_is)
    (case sa_Key => k_is)
    (case mk_Key => k_is)
    (case kc_Key => k_is)
    (case a1 => k_is)
    (case l1 => k_is)
    (case c1 => k_is)
    (case k1 => k_is)
    (case a2 => k_is)
    (case l2 => k_is)
    (case c2 => k_is)
    (case k2 => k_is)
    (case a3 => k_is)
    (case l3 => k_is)
    (case c3 => k_is)
    (case k3 => k_is)
    (case a4 => k_is)
    (case l4 => k_is)
    (case c4 => k_is)
    (case k4 => k_is)
    (case a5 => k_is)
    (case l5 => k_is)
    (case c5 => k_is)
    (case k5 => k_is)
    (case a6 => k_is)
    (case l6 => k_is)
    (case c6 => k_is)
    (case k6 => k_is)
    (case a7 => k_is)
    (case l7 => k_is)
    (case c7 => k_is)
    (case k7 => k_is)
    (case a8 => k_is)
    (case l8 => k_is)
    (case c8 => k_is)
    (case k8 => k_is)
    (case a9 => k_is)
    (case l9 => k_is)
    (case c9 => k_is)
    (case k9 => k_is)
    (case a10 => k_is)
    (case l10 => k_is)
    (case c10 => k_is)
    (case k10 => k_is)
    (case a11 => k_is)
    (case i11 => k_is)
    (case l11 => k_is)
    (case c11 => k_is)
    (case k11 => k_is)
    (case a12 => k_is)
    (case i12 => k_is)
    (case l12 => k_is)
    (case c12 => k_is)
    (case k12 => k_is)
    (case a13 => k_is)
    (case i13 => k_is)
    (case l13 => k_is)
    (case c13 => k_is)
    (case k13 => k_is)
    (case a14 => k_is)
    (case i14 => k_is)
    (case l14 => k_is)
    (case c14 => k_is)
    (case k14 => k_is)
    (case a15 => k_is)
    (case i15 => k_is)
    (case l15 => k_is)
    (case c15 => k_is)
    (case k15 => k_is)
    (case a16 => k_is)
    (case i16 => k_is)
    (case l16 => k_is)
    (case c16 => k_is)
    (case k16 => k_is)
    (case a17 => k_is)
    (case i17 => k_is)
    (case l17 => k_is)
    (case c17 => k_is)
    (case k17 => k_is)
    (case a18 => k_is)
    (case i18 => k_is)
    (case l18 => k_is)
    (case c18 => k_is)
    (case k18 => k_is)
    (case a19 => k_is)
    (case i19 => k_is)
    (case l19 => k_is)
    (case c19 => k_is)
    (case k19 => k_is)
    (case a20 => k_is)
    (case i20 => k_is)
    (case l20 => k_is)
    (case c20 => k_is)
    (case k20 => k_is)
    (case a21 => k_is)
    (case i21 => k_is)
    (case l21 => k_is)
    (case c21 => k_is)
    (case k21 => k_is)
    (case a22 => k_is)
    (case i22 => k_is)
    (case l22 => k_is)
    (case c22 => k_is)
    (case k22 => k_is)
    (case a23 => k_is)
    (case i23 => k_is)
    (case l23 => k_is)
    (case c23 => k_is)
    (case k23 => k_is)
    (case a24 => k_is)
    (case i24 => k_is)
    (case l24 => k_is)
    (case c24 => k_is)
    (case k24 => k_is)
    (case a25 => k_is)
    (case i25 => k_is)
    (case l25 => k_is)
    (case c25 => k_is)
    (case k25 => k_is)
    (case a26 => k_is)
    (case i26 => k_is)
    (case l26 => k_is)
    (case c26 => k_is)
    (case k26 => k_is)
    (case a27 => k_is)
    (case i27 => k_is)
    (case l27 => k_is)
    (case c27 => k_is)
    (case k27 => k_is)
    (case n_Caller_me => k_is)
    (case n_Caller_state => k_is)
    (case n_Caller_sits => k_is)
    (case n_Caller_round => k_is)
    (case n_Caller__roster => k_is)
    (case n_Caller__numbers => k_is)
    (case n_Caller__key => k_is)
    (case n_Caller__begun => k_is)
    (case n_Caller__pledges => k_is)
    (case n_Key_round => k_is)
    (case n_Key__served => k_is)
    (case n_Key__line => k_is)
    (case i1 => k_is)
    (case i2 => k_is)
    (case i3 => k_is)
    (case ii4 => k_is)
    (case ii5 => k_is)
    (case ii6 => k_is)
    (case w7 => first | k_is | exact rfl | decide +kernel)
    (case w8 => first | k_is | exact rfl | decide +kernel)
    (case w9 => first | k_is | exact rfl | decide +kernel)
    (case ii10 => k_is)
    (case w11 => first | k_is | exact rfl | decide +kernel)
    (case ii12 => k_is)
    (case w13 => first | k_is | exact rfl | decide +kernel)
    (case w14 => first | k_is | exact rfl | decide +kernel)
    (case ii15 => k_is)
    (case w16 => first | k_is | exact rfl | decide +kernel)
    (case ii17 => k_is)
    (case ik1 => k_is)
    (case ik2 => k_is)
    (case b_len => k_is)
    (case b_range => k_is)
    (case b_tuple => k_is)
    (case b_list => k_is)
    (case b_isinstance => k_is)
    (case b_bool => k_is)
    (case b_sorted => k_is)
    (case b_int => k_is)
    (case b_max => k_is)
#print axioms PySem.Challenge.cw_soleseat_k72_handed_on_holds
namespace G0

end G0
