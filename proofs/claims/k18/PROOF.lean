import PyProof.Rows.All
import Wide.All
import OpenK.AllK
import Wide.FinOn
import HandS.ForMost
import HandS.Wide
import HandS.Conv
import HandS.TupAny
import HandS.Deep
import HandS.Steps
import HandS.NoneIn
import HandS.IsInst
import HandS.More
import HandS.Defaults
import HandS.TupSets
import HandS.SetKeys
import HandS.SetFor
import HandS.Strs
import HandS.Style
import HandS.More
import HandS.Wide
import HandS.EndBits
import HandS.Deep
import HandS.OwnEq
import HandS.Nested
import HandS.ClsMeth
import KE.KCallOwn
import KE.KIsAll
import HandS.DictComp
import HandS.Dict
import HandS.IsInst
import HandS.Zip
import KE.KItemsList
import KE.KTurns
import HandS.FStr
import HandS.Text
import HandS.ListItems
import PySem.Challenge.RW_soleseat_k18_cuts
set_option Elab.async false
set_option maxRecDepth 100000
set_option maxHeartbeats 1000000
set_option linter.all false
/-! Calls where nothing is under repr around: the layer's defs, with one premise more (no guard around). -/
namespace G0
open PySem PySem.Spec PyProof.Rows L2
structure FnG (P : Program) (w : World) (K : PySem.W.Frag) (mg : Str → Option Value) (base : Heap) (CX : CXT)
    (k : Nat) (f : Addr) (fd : FuncData) (ps : List Str) (sp : Sp) : Prop where
  args : ∀ zs G R W, sp zs G R W → zs.length = ps.length
  runs : ∀ (B : Around) (around : List Env) (t : Shared) (G : Hp) (given : Args) (bound : List Value) (zs : List V) (R : VK) (W : XK),
    B.guards = some [] → Room k B → Env0 P w K mg base B around t G →
    BindsTo t fd given (ps.zip bound) → Vals zs bound → sp zs G R W →
    codeAny (model P w) B (.call (.ref f) given) (CR CX around P w G t R W) t
theorem FnG.of {P : Program} {w : World} {K : PySem.W.Frag} {mg : Str → Option Value} {base : Heap} {CX : CXT}
    {k : Nat} {f : Addr} {fd : FuncData} {ps : List Str} {sp : Sp} (F : FnOk P w K mg base CX k f fd ps sp) :
    FnG P w K mg base CX k f fd ps sp :=
  ⟨F.len, fun B around t G given bound zs R W _ hr => F.run B around t G given bound zs R W hr⟩
theorem FnG.mono {P : Program} {w : World} {K : PySem.W.Frag} {mg : Str → Option Value} {base : Heap} {CX : CXT}
    {j k : Nat} {f : Addr} {fd : FuncData} {ps : List Str} {sp : Sp} (F : FnG P w K mg base CX j f fd ps sp) (h : j ≤ k) :
    FnG P w K mg base CX k f fd ps sp :=
  ⟨F.args, fun B around t G given bound zs R W hg hr => F.runs B around t G given bound zs R W hg (hr.mono h)⟩
section
variable {X : Cx} {CX : CXT} {k : Nat} {f : Addr} {fd : FuncData} {ps : List Str} {sp : Sp}
  {dvs : List V} {ds : List Value} {E : XK} {x : Str} {p pos : Pos} {e : Expr} {es : List Expr} {t : TA}
theorem goes {pins : List (Addr × Obj)} {σ : L2.St} {H : Hp} {s : Shared} {Q : VK} {us : List Value} {vs : List V}
    (F : FnG X.prog X.w X.K X.mg X.base CX k f fd ps sp) (free : X.A.guards = some []) (hr : Room k X.A)
    (hb : Binds X.K fd ps ds) (hd : Vals dvs ds) (hx : Passes CX X E)
    (I : Inv X pins σ H s) (r : Vals vs us) (h : sp (vs ++ dvs) H Q E) :
    wpAny (model X.prog X.w) X.A (call (.ref f) us) (EP X pins σ Q) X.xe s := by
  have both : Vals (vs ++ dvs) (us ++ ds) := r.append hd
  have many : (us ++ ds).length = ps.length := both.length.symm.trans (F.args _ _ _ _ h)
  have it := F.runs X.A X.stack s H ⟨us, []⟩ (us ++ ds) (vs ++ dvs) Q E free hr I.env0 (hb s us I.kIn many) both h
  refine wpAny_call (codeAny_mono it fun out s' told => ?_)
  match out, told with
  | .error e, told => exact hx pins σ H s e s' I told
  | .ok (.ret u), told => exact I.after told
  | .ok .next, told => exact told.elim
  | .ok .brk, told => exact told.elim
  | .ok .cont, told => exact told.elim
theorem pe_callG (F : FnG X.prog X.w X.K X.mg X.base CX k f fd ps sp) (free : X.A.guards = some []) (hr : Room k X.A)
    (hg : Gl X x) (hm : X.mg x = some (.ref f)) (hk : PySem.W.keepIn X.K (.ref f) = true)
    (hb : Binds X.K fd ps ds) (hd : Vals dvs ds) (hx : Passes CX X E) (ha : PA X (e :: es) t)
    (n1 : (x == ("__debug__" : Str)) = false := by decide)
    (n2 : starEach (e :: es) X.env = (false, eval e X.env) :: starEach es X.env := by rfl)
    (n3 : (backTo pos (starEach es X.env)).any (·.1) = false := by rfl) :
    PE X (.Call (.Name x p) (e :: es) [] pos) (tCall sp dvs E t) :=
  ⟨fun pins s σ H Q I h => wpAny_Call_Name_kw (ld_glob I hg hm
    (PySem.W.callWith_K (h₀ := X.base) I.ok.mod.kin hk
      (thn (ha.run pos pins s σ H _ I h) fun us s1 ⟨vs, H1, I1, r, q⟩ =>
        ⟨I1.kIn, goes F free hr hb hd hx I1 r q⟩) n2 n3) n1)⟩
end
/-- a def's body, where nothing is under repr -/
theorem fnG_of {CX : CXT} {P : Program} {w : World} {K : PySem.W.Frag} {mg : Str → Option Value} {base : Heap} {k : Nat}
    {f : Addr} {name qual : Str} {params : Arguments} {body : List Stmt} {scope : Scope} {dV kV doc pm cdv ct oc : Value}
    {an od : Option Addr} {osl : Array (Option Value)} {N ps : List Str} {sp : Sp}
    (lk : K.lookup f = some ⟨oc, od, .func (PySem.W.fnOf name qual params body scope dV kV doc pm an cdv ct), osl⟩)
    (coded : PySem.W.codeIn K cdv qual = true) (S : FnScope N ps scope)
    (len : ∀ zs G R W, sp zs G R W → zs.length = ps.length)
    (inner : ∀ (B : Around) (around : List Env) (t : Shared) (G : Hp) (zs : List V) (R : VK) (W : XK), B.guards = some [] →
      Room k (B.deeper (envOfC qual scope t.heap.objs.size f cdv)) → sp zs G R W →
      ∃ tb, PSs (cxOf CX P w K mg base N qual scope f cdv B around t G W) body tb ∧
        tb { nx := fun _ G' => R .non G', rt := R } (start N zs) G) :
    FnG P w K mg base CX (k + 1) f (PySem.W.fnOf name qual params body scope dV kV doc pm an cdv ct) ps sp := by
  refine ⟨len, fun B around t G given bound zs R W free room e0 bd rel asked => ?_⟩
  have many := len _ _ _ _ asked
  have KX : K.In t.heap := e0.mod.kin.keeps fun b o z => (e0.bs b o z).1
  have lim : t.heap.NoLimit := e0.mod.nolimit.keeps fun b o z => (e0.bs b o z).1
  have kinds : ∀ y ∈ ps.zip bound, scope.names.lookup y.1 = some .local ∨
      (scope.names.lookup y.1 = some .cell ∧ ((cellsFrom (t.heap.objs.size + 1) scope.names []).lookup y.1).isSome = true) := by
    intro y hy
    cases S.par y.1 (List.of_mem_zip hy).1 with
    | inl q => exact .inl q
    | inr q => exact .inr ⟨q, PySem.W.cellsFrom_some _ _ _ (.inl q)⟩
  refine codeAny_call_function room.depth (KX _ _ lk) rfl S.co S.gen rfl (PySem.W.codeRec_of KX coded) (bd _ _ _ _ ?_)
  refine wpAny_newFunctionEnv_cells S.kind kinds fun env same t1 made => ?_
  subst same
  refine ⟨lim.keeps made.toInCall.keep, codeAny_func ?_⟩
  obtain ⟨tb, derived, holds⟩ := inner B around t G zs R W free (room.deeper _) asked
  have J : Inv (cxOf CX P w K mg base N qual scope f cdv B around t G W) [] (start N zs) G t1 :=
    inv_start S room.hd e0 many rel made
  refine wpAny_mono (derived.run [] t1 (start N zs) G _ J holds) (fun fl t' told => ?_) fun e t' told => told
  match fl, told with
  | .ret u, ⟨v, σ', G', J', rv, q⟩ => exact ⟨v, G', J'.os, J'.bare, J'.base, J'.hok, rv, q⟩
  | .next, ⟨σ', G', J', q⟩ => exact ⟨V.non, G', J'.os, J'.bare, J'.base, J'.hok, (rfl : Value.none = Value.none), q⟩
  | .brk, ⟨_, _, _, q⟩ => exact q.elim
  | .cont, ⟨_, _, _, q⟩ => exact q.elim
theorem okG {P : Program} {w : World} {K : PySem.W.Frag} {mg : Str → Option Value} {base : Heap} {x qual : Str} {st : Stmt}
    {f : Addr} {fd : FuncData} {N ps : List Str} {k : Nat} {sp : Sp} (F : Fun K x qual st f fd) (S : FnScope N ps (defScope st))
    (len : ∀ zs G R W, sp zs G R W → zs.length = ps.length)
    (inner : ∀ (cdv : Value) (B : Around) (around : List Env) (t : Shared) (G : Hp) (zs : List V) (R : VK) (W : XK), B.guards = some [] →
      Room k (B.deeper (envOfC qual (defScope st) t.heap.objs.size f cdv)) → sp zs G R W →
      ∃ tb, PSs (cxOf CX0 P w K mg base N qual (defScope st) f cdv B around t G W).nox (defBody st) tb ∧
        tb { nx := fun _ G' => R .non G', rt := R } (start N zs) G) :
    FnG P w K mg base CX0 (k + 1) f fd ps sp := by
  obtain ⟨oc, od, kV, doc, pm, an, cdv, ct, osl, rfl, lk, coded⟩ := F.ex
  refine fnG_of lk coded S len fun B around t G zs R W free room asked => ?_
  obtain ⟨tb, derived, holds⟩ := inner cdv B around t G zs R W free room asked
  exact ⟨tb, derived.nox, holds⟩
/-- the law's own call -/
theorem law_callG {P : Program} {w : World} {K : PySem.W.Frag} {mg mb : Str → Option Value} {CX : CXT} {k : Nat} {fa a : Addr}
    {fd : FuncData} {x : Str} {sp : Sp} {s₁ : Shared} {vs : List Value} {ns : List Int}
    (KX : K.In s₁.heap) (gl : s₁.heap.Ns mainGlobals mg) (bl : s₁.heap.Ns builtinsNs mb)
    (boot : ∀ x : Str, x ≠ "__name__" → mb x = bootBuiltins x) (lim : s₁.heap.NoLimit) (nogens : s₁.gens = #[])
    (at_ : s₁.heap.get? a = some { cls := .type "list", data := .seq vs.toArray }) (nums : IntsAre vs ns) (short : ns.length ≤ sizeLine)
    (room : Room k callerA)
    (F : ∀ base : Heap, K.In base → base.Ns mainGlobals mg → FnG P w K mg base CX k fa fd [x] sp)
    (bound : ∀ (s : Shared) (u : Value), BindsTo s fd ⟨[u], []⟩ [(x, u)])
    (asked : ∀ H : Hp, Only H → SqL K H a (ns.map V.int) → sp [.ref a] H (fun v _ => v = .bl true) fun _ _ _ => False)
    (never : ∀ H e s', CX [] H s₁ (fun _ _ _ => False) e s' → False) :
    codeAny (model P w) callerA (.call (.ref fa) ⟨[.ref a], []⟩)
      (fun r s' => r = .ok (.ret (.bool true)) ∧ OldK s₁.heap s'.heap ∧ s'.os = s₁.os ∧ AllBare s'.gens) s₁ := by
  have rel := vals_ints nums
  have many := nums.length
  have from_ : ∀ H : Hp, Only H → SqL K H a (ns.map V.int) → HOk P w H s₁.heap → (∀ b, H b ≠ none → b = a) →
      (H a ≠ none → K.lookup a = none) → codeAny (model P w) callerA (.call (.ref fa) ⟨[.ref a], []⟩)
        (fun r s' => r = .ok (.ret (.bool true)) ∧ OldK s₁.heap s'.heap ∧ s'.os = s₁.os ∧ AllBare s'.gens) s₁ := by
    intro H only seq fine one away
    have down : ∀ {b : Addr} {o : Obj}, s₁.heap.get? b = some o → H b = none →
      (hidT s₁.heap H).get? b = some o := fun e n => hidT_get e n
    have untracked : ∀ {b : Addr} {o : Obj}, s₁.heap.get? b = some o → (b = a → False) → H b = none := by
      intro b o _ n
      by_cases q : H b = none
      · exact q
      · exact (n (one b q)).elim
    have nodict : ∀ {b : Addr} {o : Obj} {es : Array DictEntry} {ep : Nat},
        s₁.heap.get? b = some o → o.data = .dict es ep → H b = none := by
      intro b o es ep e d
      refine untracked e fun q => ?_
      rw [q, at_] at e
      have e' := Option.some.inj e
      rw [← e'] at d
      have d' : Data.seq vs.toArray _ = Data.dict es ep := d
      exact absurd d' (fun h => by cases h)
    have spaces : ∀ {b : Addr} {m : Str → Option Value}, s₁.heap.Ns b m → (hidT s₁.heap H).Ns b m := by
      intro b m ns
      obtain ⟨o, es, ep, e, d, r⟩ := ns
      exact ⟨o, es, ep, down e (nodict e d), d, r⟩
    have written : K.In (hidT s₁.heap H) := by
      intro b o e
      refine down (KX b o e) ?_
      by_cases q : H b = none
      · exact q
      · have same := one b q
        rw [same] at q e
        rw [away q] at e
        cases e
    have md : Mod K mg (hidT s₁.heap H) := by
      obtain ⟨mc, h1, h2⟩ := lim
      exact ⟨written, spaces gl, ⟨mb, spaces bl, boot⟩, ⟨mc, spaces h1, h2⟩⟩
    have e0 : Env0 P w K mg (hidT s₁.heap H) callerA [] s₁ H :=
      ⟨rfl, md, fun b o e => of_hidT e, Nat.le_of_eq (hidT_size _ _), trivial,
        fun b hb => (List.not_mem_nil (show b ∈ ([] : List Addr) from hb)).elim, fine, .of_eq nogens⟩
    have it := (F _ written (spaces gl)).runs callerA [] s₁ H ⟨[.ref a], []⟩ [.ref a] [.ref a] _ _ rfl room e0
      (bound s₁ (.ref a)) (.cons rfl .nil) (asked H only seq)
    refine codeAny_mono it fun out s' told => ?_
    match out, told with
    | .error e, told => exact (never H e s' told).elim
    | .ok .next, told => exact told.elim
    | .ok .brk, told => exact told.elim
    | .ok .cont, told => exact told.elim
    | .ok (.ret u), ⟨v, H', os, bare, un, fine', r', q⟩ =>
      have q' : v = .bl true := q
      subst q'
      have u' : u = Value.bool true := r'
      subst u'
      refine ⟨rfl, OldK.of_keep fun b o e => ?_, os, bare⟩
      cases q : H b with
      | none => exact un.keep b o e q (fun z => (List.not_mem_nil (show b ∈ ([] : List Addr) from z)).elim) (List.not_mem_nil)
      | some u =>
        rcases only b with z | ⟨ob, xs, z⟩
        · have z1 := q.symm.trans z
          cases z1
        · have z' := un.frzs b ob _ z
          have e1 := (fine b _ z).1
          have e2 := (fine' b _ z').1
          exact e2.trans (e1.symm.trans e)
  cases known : K.lookup a with
  | some o =>
    have e := (KX a o known).symm.trans at_
    have e' := Option.some.inj e
    subst e'
    refine from_ (fun _ => none) (fun _ => .inl rfl) (.inr ⟨_, vs.toArray, _, known, rfl, rfl, rfl, ?_, ?_⟩)
      (fun b u z => by have z1 : (none : Option HO) = some u := z; cases z1) (fun b z => (z rfl).elim) fun z => (z rfl).elim
    · rw [List.size_toArray, many]; exact short
    · simpa using rel
  | none =>
    have self : (fun b => if b = a then some (HO.frz { cls := .type "list", data := .seq vs.toArray } (.lst (ns.map V.int))) else none) a
        = some (HO.frz { cls := .type "list", data := .seq vs.toArray } (.lst (ns.map V.int))) := if_pos rfl
    refine from_ (fun b => if b = a then some (HO.frz { cls := .type "list", data := .seq vs.toArray } (.lst (ns.map V.int))) else none)
      (fun b => ?_) (.inl (.inr ⟨_, self⟩)) (fun b u z => ?_) (fun b z => ?_) fun _ => known
    · by_cases same : b = a
      · exact .inr ⟨_, _, if_pos same⟩
      · exact .inl (if_neg same)
    · by_cases same : b = a
      · subst same
        have z' := Option.some.inj ((if_pos rfl).symm.trans z)
        subst z'
        exact ⟨at_, by rw [List.length_map]; exact short, vs, _, rel, at_⟩
      · have z1 := (if_neg same).symm.trans z
        cases z1
    · by_cases same : b = a
      · exact same
      · exact (z (if_neg same)).elim
theorem walk_ofG {l : PySem.W.OpenLaw} {n k : Nat} {q : Program} {loose : List Str} {XP : (Str → Option Value) → Heap → Prop}
    {YP : World → Heap → Prop} {d : DefRec} {K : Params → PySem.W.Frag} {sp : PySem.W.Frag → Sp} {x : Str}
    (hn : l.most = some n) (hn2 : n ≤ sizeLine) (hdf : d.params.defaults = []) (room : Room k callerA)
    (hY : ∀ (w : World) (h : Heap), YP w h → (K w.params).In h)
    (F : ∀ (w : World) (mg : Str → Option Value) (fa : Addr) (h : Heap), (K w.params).In h → h.Ns mainGlobals mg →
      mg d.name = some (.ref fa) → ∃ fd : FuncData, (∀ (s : Shared) (u : Value), BindsTo s fd ⟨[u], []⟩ [(x, u)]) ∧
        ∀ base : Heap, (K w.params).In base → base.Ns mainGlobals mg →
          FnG l.prog w (K w.params) mg base CX0 k fa fd [x] (sp (K w.params)))
    (asked : ∀ (K : PySem.W.Frag) (H : Hp) (a : Addr) (ns : List Int), ns.length ≤ n → Only H → SqL K H a (ns.map V.int) →
      sp K [.ref a] H (fun v _ => v = .bl true) fun _ _ _ => False) :
    PySem.W.WalkO q loose XP YP l.row.toRowW d [] (fun f vs => PySem.call f vs) := by
  refine Att.attach_call hn hdf fun w s₀ s₁ mg mb fa o pm cd doc a vs ns G Y ho hd hcd named obj nums few nogens => ?_
  have KX := hY w _ Y
  obtain ⟨fd, bound, all⟩ := F w mg fa _ KX G.T.g named
  exact law_callG KX G.T.g G.T.b G.T.builtins G.T.nolimit nogens obj nums (Nat.le_trans few hn2) room all bound
    (fun H only seq => asked _ H a ns few only seq) fun H e s' z => z
end G0
namespace G0
open PySem PySem.Spec PyProof.Rows L2
/-! ### a def of the module's top, by its name (no word of guards: for laws without repr) -/
def Fn (K : PySem.W.Frag) (mg : Str → Option Value) (x : Str) (st : Stmt) : Prop :=
  ∃ f fd, Fun K x x st f fd ∧ mg x = some (.ref f)
def Cal (P : Program) (w : World) (K : PySem.W.Frag) (mg : Str → Option Value) (base : Heap) (x : Str) (k : Nat) (ps : List Str) (sp : Sp) : Prop :=
  ∃ f fd, FnOk P w K mg base CX0 k f fd ps sp ∧ Binds K fd ps [] ∧ mg x = some (.ref f) ∧ PySem.W.keepIn K (.ref f) = true ∧
    ∃ oc od osl, K.lookup f = some ⟨oc, od, .func fd, osl⟩
theorem fn_top {K : PySem.W.Frag} {h : Heap} {mg : Str → Option Value} {x : Str} {st : Stmt} {f : Addr} {oc : Value} {od an : Option Addr}
    {osl : Array (Option Value)} {kV doc pm cdv ct : Value} (X : K.In h) (G : h.Ns mainGlobals mg)
    (a : PySem.W.nsIn K mainGlobals x = some (some (.ref f)))
    (l : K.lookup f = some ⟨oc, od, .func (PySem.W.fnOf x x (defArgs st) (defBody st) (defScope st) .none kV doc pm an cdv ct), osl⟩)
    (c : PySem.W.codeIn K cdv x = true) (k : PySem.W.keepIn K (.ref f) = true) : Fn K mg x st :=
  ⟨f, _, fun_mk l c k, PySem.W.mg_of X G a⟩
/-- a method of the class at C -/
def Fm (K : PySem.W.Frag) (C : Addr) (x qual : Str) (st : Stmt) : Prop := ∃ f fd, Fun K x qual st f fd ∧ Meth K C x f
theorem fm_top {K : PySem.W.Frag} {C : Addr} {x qual : Str} {st : Stmt} {f : Addr} {oc : Value} {od an : Option Addr}
    {osl : Array (Option Value)} {kV doc pm cdv ct : Value}
    (a : PySem.W.findIn K (.ref C) x = some (some (.ref f))) (i : PySem.W.isFn K (.ref f) = true)
    (l : K.lookup f = some ⟨oc, od, .func (PySem.W.fnOf x qual (defArgs st) (defBody st) (defScope st) .none kV doc pm an cdv ct), osl⟩)
    (c : PySem.W.codeIn K cdv qual = true) (k : PySem.W.keepIn K (.ref f) = true) : Fm K C x qual st :=
  ⟨f, _, fun_mk l c k, ⟨a, i, k⟩⟩
section
variable {P : Program} {w : World} {K : PySem.W.Frag} {mg : Str → Option Value} {base : Heap}
theorem cal_of {x : Str} {st : Stmt} {N ps : List Str} {k : Nat} {sp : Sp} (F : Fn K mg x st) (S : FnScope N ps (defScope st))
    (bd : ∀ (kV doc pm : Value) (an : Option Addr) (cdv ct : Value) (us : List Value), us.length = ps.length →
      bindArgs (PySem.W.fnOf x x (defArgs st) (defBody st) (defScope st) .none kV doc pm an cdv ct) ⟨us, []⟩ = pure (ps.zip us))
    (len : ∀ zs G R W, sp zs G R W → zs.length = ps.length)
    (inner : ∀ (f : Addr) (cdv : Value) (B : Around) (around : List Env) (t : Shared) (G : Hp) (zs : List V) (R : VK) (W : XK), True →
      Room k (B.deeper (envOfC x (defScope st) t.heap.objs.size f cdv)) → sp zs G R W →
      ∃ tb, PSs (cxOf CX0 P w K mg base N x (defScope st) f cdv B around t G W).nox (defBody st) tb ∧
        tb { nx := fun _ G' => R .non G', rt := R } (start N zs) G) :
    Cal P w K mg base x (k + 1) ps sp := by
  obtain ⟨f, fd, F, m⟩ := F
  obtain ⟨oc, od, kV, doc, pm, an, cdv, ct, osl, e, lk, c⟩ := id F.ex
  exact ⟨f, fd, F.ok S len (fun cdv B around t G zs R W room h => inner f cdv B around t G zs R W True.intro room h), F.binds bd, m, F.kp, oc, od, osl, lk⟩
theorem Cal.mono {x : Str} {j k : Nat} {ps : List Str} {sp : Sp} (C : Cal P w K mg base x j ps sp) (h : j ≤ k) : Cal P w K mg base x k ps sp := by
  obtain ⟨f, fd, F, r⟩ := C
  exact ⟨f, fd, F.mono h, r⟩
/-- the law itself, at the end -/
theorem law_end {st : Stmt} {k : Nat} {sp : Sp} {fa : Addr} (F : Fn K mg "law" st) (hm : mg "law" = some (.ref fa))
    (bt : ∀ (kV doc pm : Value) (an : Option Addr) (cdv ct : Value) (s : Shared) (v : Value),
      BindsTo s (PySem.W.fnOf "law" "law" (defArgs st) (defBody st) (defScope st) .none kV doc pm an cdv ct) ⟨[v], []⟩ [("script", v)])
    (C : ∀ base : Heap, K.In base → base.Ns mainGlobals mg → Cal P w K mg base "law" k ["script"] sp) :
    ∃ fd : FuncData, (∀ (s : Shared) (v : Value), BindsTo s fd ⟨[v], []⟩ [("script", v)]) ∧
      ∀ base : Heap, K.In base → base.Ns mainGlobals mg → FnG P w K mg base CX0 k fa fd ["script"] sp := by
  obtain ⟨f, fd, F, m⟩ := F
  obtain ⟨oc, od, kV, doc, pm, an, cdv, ct, osl, e, lk, c⟩ := id F.ex
  have ef := m.symm.trans hm
  cases ef
  refine ⟨fd, fun s v => by rw [e]; exact bt _ _ _ _ _ _ s v, fun base kin ns => ?_⟩
  obtain ⟨f', fd', G, _, m', _, oc', od', osl', lk'⟩ := C base kin ns
  have ef := m.symm.trans m'
  cases ef
  have ed := lk.symm.trans lk'
  cases ed
  exact FnG.of G
end
section
variable {X : Cx} {k : Nat} {ps : List Str} {sp : Sp} {x : Str} {p pos : Pos} {e : Expr} {es : List Expr} {t : TA}
theorem pe_cal (C : Cal X.prog X.w X.K X.mg X.base x k ps sp) (free : True) (hr : Room k X.A)
    (ha : PA X (e :: es) t) (hg : Gl X x := by rfl) (n1 : (x == ("__debug__" : Str)) = false := by decide)
    (n2 : starEach (e :: es) X.env = (false, eval e X.env) :: starEach es X.env := by rfl)
    (n3 : (backTo pos (starEach es X.env)).any (·.1) = false := by rfl) (hx : Passes CX0 X E0 := by exact pass0) :
    PE X (.Call (.Name x p) (e :: es) [] pos) (tCall sp [] E0 t) := by
  obtain ⟨f, fd, F, b, m, kp, _⟩ := C
  exact pe_call F hr hg m kp b .nil hx ha n1 n2 n3
/-! ### repr of data -/
def rRep (K : PySem.W.Frag) : List V → Hp → VK → Prop := fun xs H Q => ∃ (x : V) (d : PyData), xs = [x] ∧ Dp K H x d ∧
  d.showable = true ∧ d.hasDict = false ∧ d.depth ≤ 64 ∧ d.shown.length ≤ sizeLine ∧ Q (.str d.shown) H
theorem call_rep (free : X.A.guards = some []) (hu : X.A.units + 66 < cLine) : CallR X (.builtin "repr") (rRep X.K) := by
  intro pins s σ H xs us Q I r h
  obtain ⟨x, d, rfl, hd, hs, hn, h64, hz, q⟩ := h
  obtain ⟨u, rfl, rx⟩ := vals1 r
  have viaRef : ∀ (a : Addr), x = .ref a → wpAny (model X.prog X.w) X.A (call (.builtin "repr") [u]) (EP X pins σ Q) X.xe s := by
    intro a e
    subst e
    obtain rfl : u = Value.ref a := rx
    obtain ⟨as, rd⟩ := Dp.reads I d _ _ hd (rfl : RelV (.ref a) (.ref a))
    exact repr_of_reads' rd hs (PyData.noDict_hsm hn) free (by omega) (fun _ _ e => e)
      (fun h' w t kp => ⟨.str d.shown, H, I.kept (t' := t) kp, ⟨_, rfl⟩, q⟩) hz
  cases hd with
  | non =>
    obtain rfl : u = Value.none := rx
    exact PySem.P.repr_of_none ⟨.str _, H, I.tok _, ⟨_, rfl⟩, by simpa only [PyData.shown] using q⟩
  | bl b =>
    obtain rfl : u = Value.bool b := rx
    exact PySem.P.repr_of_bool ⟨.str _, H, I.tok _, ⟨_, rfl⟩, by simpa only [PyData.shown] using q⟩
  | int i =>
    obtain ⟨t, rfl⟩ := rx
    exact PySem.P.repr_of_int (by simpa [PyData.showable] using hs) ⟨.str _, H, I.tok _, ⟨_, rfl⟩, by simpa only [PyData.shown] using q⟩
  | str z =>
    obtain ⟨t, rfl⟩ := rx
    exact PySem.P.repr_of_str ⟨.str _, H, I.tok _, ⟨_, rfl⟩, by simpa only [PyData.shown] using q⟩ (by simpa only [PyData.shown] using hz)
  | lst _ _ => exact viaRef _ rfl
  | tup _ _ => exact viaRef _ rfl
/-! ### operators of several kinds in one -/
theorem u_eq (hu : X.A.units + 64 < cLine) : OpR X (compareOp .Eq) (fun x y H Q => rEq x y H Q ∨ rEqD X.K x y H Q) := op_eq.or (op_eqD hu)
theorem u_ne (hu : X.A.units + 64 < cLine) : OpR X (compareOp .NotEq) (fun x y H Q => rNe x y H Q ∨ rNeD X.K x y H Q) := op_ne.or (op_neD hu)
theorem u_in : OpR X (compareOp .In) (fun x y H Q => rIn X.K false x y H Q ∨ rInS x y H Q) := op_in_seq.or op_inS
theorem u_notin : OpR X (compareOp .NotIn) (fun x y H Q => rIn X.K true x y H Q ∨ rNotInS x y H Q) := op_notIn_seq.or op_notInS
end
theorem pe_fldK {X : Cx} {e : Expr} {f : Str} {pos : Pos} {ta : TE} (K : PySem.W.Frag) (ha : PE X e ta) (hK : X.K = K := by rfl)
    (hb : attributeBase e f X.env (eval e X.env) = eval e X.env := by rfl) : PE X (.Attribute e f pos) (tFld K ta f) := by
  subst hK
  exact pe_fld ha hb
/-! ### the written part named, for what stands within a comprehension -/
theorem op_K {X : Cx} {f : Value → Value → Sem Value} (r : PySem.W.Frag → R2) (K : PySem.W.Frag) (ho : OpR X f (r X.K)) (hK : X.K = K) : OpR X f (r K) := hK ▸ ho
theorem ix_K {X : Cx} (r : PySem.W.Frag → R2) (K : PySem.W.Frag) (ho : IxR X (r X.K)) (hK : X.K = K) : IxR X (r K) := hK ▸ ho
theorem call_K {X : Cx} {f : Value} (r : PySem.W.Frag → List V → Hp → VK → Prop) (K : PySem.W.Frag) (ho : CallR X f (r X.K)) (hK : X.K = K) : CallR X f (r K) := hK ▸ ho
section
variable {X : Cx} (K : PySem.W.Frag)
theorem u_inK (hK : X.K = K := by rfl) : OpR X (compareOp .In) (fun x y H Q => rIn K false x y H Q ∨ rInS x y H Q) := op_K (fun K x y H Q => rIn K false x y H Q ∨ rInS x y H Q) K u_in hK
theorem u_notinK (hK : X.K = K := by rfl) : OpR X (compareOp .NotIn) (fun x y H Q => rIn K true x y H Q ∨ rNotInS x y H Q) := op_K (fun K x y H Q => rIn K true x y H Q ∨ rNotInS x y H Q) K u_notin hK
theorem ix_listK (hK : X.K = K := by rfl) : IxR X (rIxL K) := ix_K rIxL K ix_list hK
theorem ix_tupK (hK : X.K = K := by rfl) : IxR X (rIxT K) := ix_K rIxT K ix_tup hK
theorem ix_seqK (hK : X.K = K := by rfl) : IxR X (rIx K) := ix_K rIx K ix_seq hK
theorem call_len_seqK (hK : X.K = K := by rfl) : CallR X (.builtin "len") (fun xs H Q => ∃ p ys, xs = [.ref p] ∧ (SqL K H p ys ∨ SqT K H p ys) ∧ Q (.int ys.length) H) :=
  call_K (fun K xs H Q => ∃ p ys, xs = [.ref p] ∧ (SqL K H p ys ∨ SqT K H p ys) ∧ Q (.int ys.length) H) K call_len_seq hK
end
/-! ### what changes: one list -/
/-- all that is tracked but p stays -/
def Chg (p : Addr) (H H' : Hp) : Prop := ∀ b o, b ≠ p → H b = some o → H' b = some o
theorem Chg.refl (p : Addr) (H : Hp) : Chg p H H := fun _ _ _ e => e
theorem Chg.trans {p : Addr} {H H1 H2 : Hp} (a : Chg p H H1) (b : Chg p H1 H2) : Chg p H H2 := fun c o n e => b c o n (a c o n e)
theorem Chg.self {p : Addr} {H : Hp} {o : HO} : Chg p H (upd H p o) := fun b u n e => by rw [upd_ne n]; exact e
theorem Chg.new {p q : Addr} {H H1 : Hp} {o : HO} (a : Chg p H H1) (n : H1 q = none) : Chg p H (upd H1 q o) := fun b u m e => by
  rw [upd_ne (ne_of_none (a b u m e) n)]; exact a b u m e
theorem Chg.same {p : Addr} {H H1 : Hp} (a : Same H H1) : Chg p H H1 := fun b o _ e => a b o e
theorem same_upd {H : Hp} {q : Addr} {o : HO} (n : H q = none) : Same H (upd H q o) := fun b u e => by
  rw [upd_ne (ne_of_none e n)]; exact e
/-! ### a law's draws: the pot -/
def PotL (n : Nat) (xs : List V) : Prop := ∃ a b c : Int, xs = [.int a, .int b, .int c] ∧ 0 ≤ a ∧ 0 ≤ b ∧ b < 2305843009213693951 ∧ 0 ≤ c ∧ c ≤ n
def PotAt (n : Nat) (H : Hp) (p : Addr) : Prop := ∃ xs, H p = some (.lst xs) ∧ PotL n xs
theorem PotL.mono {n m : Nat} {xs : List V} (h : PotL n xs) (le : n ≤ m) : PotL m xs := by
  obtain ⟨a, b, c, e, h1, h2, h3, h4, h5⟩ := h
  exact ⟨a, b, c, e, h1, h2, h3, h4, by omega⟩
theorem PotAt.mono {n m : Nat} {H : Hp} {p : Addr} (h : PotAt n H p) (le : n ≤ m) : PotAt m H p := by
  obtain ⟨xs, e, h⟩ := h
  exact ⟨xs, e, h.mono le⟩
theorem PotAt.keep {n : Nat} {H H' : Hp} {p : Addr} (h : PotAt n H p) (s : Same H H') : PotAt n H' p := by
  obtain ⟨xs, e, h⟩ := h
  exact ⟨xs, s _ _ e, h⟩
theorem PotAt.at {n : Nat} {H : Hp} {p : Addr} {xs : List V} (h : PotL n xs) : PotAt n (upd H p (.lst xs)) p := ⟨xs, upd_same, h⟩
end G0
/-! Wide powers, the law's own call with the script's bits told, len of an own object, sorted of a tuple of tuples of ints. -/
namespace G0
open PySem PySem.Spec PyProof.Rows L2
def CPowB (i j : Int) : Prop := 0 ≤ j ∧ (Builtin.Int.intBits i : Int) * j ≤ 2 ^ 27
theorem op_powB {X : Cx} : OpR X (binaryOp .Pow) (rI CPowB fun i j => .int (i ^ j.toNat)) := opI fun _ _ _ _ _ _ _ hc q => pow_int hc.1 hc.2 q
theorem walk_ofGB {l : PySem.W.OpenLaw} {n k : Nat} {q : Program} {loose : List Str} {XP : (Str → Option Value) → Heap → Prop}
    {YP : World → Heap → Prop} {d : DefRec} {K : Params → PySem.W.Frag} {sp : PySem.W.Frag → Sp} {x : Str}
    (hn : l.most = some n) (hn2 : n ≤ sizeLine) (hdf : d.params.defaults = []) (room : Room k callerA)
    (hY : ∀ (w : World) (h : Heap), YP w h → (K w.params).In h)
    (F : ∀ (w : World) (mg : Str → Option Value) (fa : Addr) (h : Heap), (K w.params).In h → h.Ns mainGlobals mg →
      mg d.name = some (.ref fa) → ∃ fd : FuncData, (∀ (s : Shared) (u : Value), BindsTo s fd ⟨[u], []⟩ [(x, u)]) ∧
        ∀ base : Heap, (K w.params).In base → base.Ns mainGlobals mg →
          FnG l.prog w (K w.params) mg base CX0 k fa fd [x] (sp (K w.params)))
    (asked : ∀ (K : PySem.W.Frag) (H : Hp) (a : Addr) (ns : List Int), ns.length ≤ n → (∀ z ∈ ns, Builtin.Int.intBits z ≤ 1048576) → Only H → SqL K H a (ns.map V.int) →
      sp K [.ref a] H (fun v _ => v = .bl true) fun _ _ _ => False) :
    PySem.W.WalkO q loose XP YP l.row.toRowW d [] (fun f vs => PySem.call f vs) := by
  refine Att.attach_callB hn hdf fun w s₀ s₁ mg mb fa o pm cd doc a vs ns G Y ho hd hcd named obj nums few bits nogens => ?_
  have KX := hY w _ Y
  obtain ⟨fd, bound, all⟩ := F w mg fa _ KX G.T.g named
  exact law_callG KX G.T.g G.T.b G.T.builtins G.T.nolimit nogens obj nums (Nat.le_trans few hn2) room all bound
    (fun H only seq => asked _ H a ns few bits only seq) fun H e s' z => z
/-! ### len of an own object -/
section
variable {X : Cx} {CX : CXT} {k : Nat} {f C : Addr} {fd : FuncData} {ps : List Str} {sp : Sp} {dvs : List V} {ds : List Value} {E : XK}
theorem run_fn1 {pins : List (Addr × Obj)} {σ : L2.St} {H : Hp} {s : Shared} {Q : VK} {us : List Value} {vs : List V}
    (F : FnOk X.prog X.w X.K X.mg X.base CX k f fd ps sp) (hr : Room (k + 1) X.A) (hb : Binds X.K fd ps ds) (hd : Vals dvs ds) (hx : Passes CX X E)
    (I : Inv X pins σ H s) (r : Vals vs us) (h : sp (vs ++ dvs) H Q E) : wpAny (model X.prog X.w) X.A.in1 (call (.ref f) us) (EP X pins σ Q) X.xe s := by
  have r2 : Vals (vs ++ dvs) (us ++ ds) := r.append hd
  have hl : (us ++ ds).length = ps.length := by rw [← r2.length]; exact F.len _ _ _ _ h
  refine wpAny_call (codeAny_mono (F.run X.A.in1 X.stack s H ⟨us, []⟩ (us ++ ds) (vs ++ dvs) Q E hr.in1 I.env0.in1 (hb s us I.kIn hl) r2 h) fun r s' hq => ?_)
  cases r with
  | error e => exact hx pins σ H s e s' I hq
  | ok fl =>
    cases fl with
    | ret u => exact I.after hq
    | next => exact False.elim hq
    | brk => exact False.elim hq
    | cont => exact False.elim hq
def rLenOwn (C : Addr) (sp : Sp) (E : XK) : List V → Hp → VK → Prop := fun xs H Q => ∃ (a dx : Addr) (fs : List (Str × V)), xs = [.ref a] ∧ H a = some (.ins C dx fs) ∧
  sp [.ref a] H (fun v H2 => ∃ n : Nat, v = .int n ∧ n ≤ sizeLine ∧ Q (.int n) H2) E
theorem call_lenOwn (hm : Meth X.K C "__len__" f) (F : FnOk X.prog X.w X.K X.mg X.base CX k f fd ps sp) (hr : Room (k + 1) X.A) (hb : Binds X.K fd ps []) (hx : Passes CX X E) :
    CallR X (.builtin "len") (rLenOwn C sp E) := by
  intro pins s σ H xs us Q I r h
  obtain ⟨a, dx, fs, rfl, e, q⟩ := h
  obtain ⟨u, rfl, ru⟩ := vals1 r
  obtain rfl : u = Value.ref a := ru
  obtain ⟨mA, O, _, _, _, _⟩ := ins_get I.hok e
  obtain ⟨od, ho, _⟩ := lookIn_ns O.ns
  have IA : PySem.W.InstAt s.heap a (PySem.W.instObj C dx) C (some od) := ⟨O.obj, rfl, rfl, ho⟩
  refine Calls.call_function_entry kind_len plain_len entry_len (args_len1 _) ?_
  unfold Builtin.«len»
  refine wpAny_bind (m := oneArg "len" _) (wpAny_pure ?_)
  refine wpAny_bind (m := callSpecial? (.ref a) (Str.ofString "__len__")) (PySem.W.special_fn I.kIn IA hm.at_ (beq_iff_eq.mp hm.fn)
    (wpAny_mono (run_fn1 (us := [.ref a]) (vs := [.ref a]) F hr hb .nil hx I (.cons rfl .nil) q) (fun r s' hr' => ?_) fun _ _ y => y))
  obtain ⟨v, H', I', rv, n, rfl, hn, q'⟩ := hr'
  obtain ⟨t, rfl⟩ := (show ∃ t, r = Value.int n t from rv)
  rw [sizeLine_eq] at hn
  refine wpAny_bind (wpAny_holding (wpAny_pure ?_))
  refine wpAny_bind (wpAny_letGo ?_)
  show wpAny _ _ (if ((n : Nat) : Int) < 0 then _ else _) _ _ _
  rw [if_neg (by omega)]
  show wpAny _ _ (if ((n : Nat) : Int) ≥ 2 ^ 63 then _ else _) _ _ _
  rw [if_neg (by omega)]
  exact wpAny_bind (wpAny_mkInt (wpAny_pure ⟨_, rfl, .int n, H', I'.tok _, ⟨_, rfl⟩, q'⟩))
end
/-! ### sorted of a tuple of tuples of ints -/
section
variable {prog : Program} {w : World} {A : Around} {E : Value → Shared → Prop} {s : Shared}
theorem collect_tup {l : Addr} {vs : List Value} {Q : List Value → Shared → Prop} (hl : IsTup s.heap l vs.toArray)
    (h : Q vs { s with heap := (s.heap.push (seqObj "list" #[] 0)).update s.heap.objs.size (Obj.mapSeq (· ++ vs.toArray)) }) (hsz : vs.length ≤ sizeLine) :
    wpAny (model prog w) A (collect (.ref l)) Q E s := by
  obtain ⟨o, ho, hc, n, hd⟩ := id hl
  unfold collect
  refine wpAny_bind (wpAny_runValue (codeAny_builtin entry_proto_collect' ?_))
  show wpAny _ _ (do again (.builtin "list.__iadd__" ⟨[← newList [], .ref l], []⟩)) _ _ s
  refine wpAny_bind (wpAny_newList (wpAny_pure ⟨Code.quiet_builtin _ (by decide +kernel), codeAny_builtin entry_list_iadd' ?_⟩))
  show wpAny _ _ (Builtin.List.listExtendWith (.ref s.heap.objs.size) (.ref l) (.ref s.heap.objs.size)) _ _ { s with heap := s.heap.push (seqObj "list" #[] 0) }
  unfold Builtin.List.listExtendWith
  have ho' : (s.heap.push (seqObj "list" #[] 0)).get? l = some o := Heap.get?_push_of_some _ ho
  refine wpAny_bind (wpAny_typeOf (T := "tuple") ⟨o, ho', hc⟩ ?_)
  have ht : (Value.type "tuple" == Value.type "tuple") = true := by rfl
  rw [if_pos (by rw [ht]; simp)]
  refine wpAny_bind (listItems_at ho' hd ?_)
  refine wpAny_bind (listItems_at (xs := #[]) (n := 0) (Heap.get?_push_size _ rfl) rfl ?_)
  rw [if_neg (by simp)]
  refine wpAny_bind (listUpdate_at (xs := #[]) (n := 0) (Heap.get?_push_size _ rfl) rfl ?_ (Nat.zero_le _) (by show (#[] ++ vs.toArray).size ≤ sizeLine + 1; simp only [Array.size_append, List.size_toArray, List.length_nil]; omega))
  refine wpAny_pure ?_
  show wpAny (model prog w) A (do
      let o ← load s.heap.objs.size
      match o.data with
      | .seq xs _ => pure xs.toList
      | _ => unsupported "internal:collect") Q E { s with heap := (s.heap.push (seqObj "list" #[] 0)).update s.heap.objs.size (Obj.mapSeq (· ++ vs.toArray)) }
  refine wpAny_bind (wpAny_load (get?_update_seq (Heap.get?_push_size _ rfl) _) ?_)
  show wpAny _ _ (pure ((#[] : Array Value) ++ vs.toArray).toList) Q E _
  rw [show ((#[] : Array Value) ++ vs.toArray).toList = vs by simp]
  exact wpAny_pure h
open TS in
theorem sorted_tupsT {l : Addr} {vs : List Value} {d : Nat} {B : Int} {Q : Value → Shared → Prop} (hl : IsTup s.heap l vs.toArray) (h64 : vs.length < 64) (hd : 1 ≤ d) (x : TupsOk s.heap d B vs)
    (h : ∀ out : Array Value, out.toList.Perm vs → out.toList.Pairwise (fun u v => code B (intsOf s.heap u) ≤ code B (intsOf s.heap v)) → Q (.ref (s.heap.objs.size + 1)) { s with heap := sortedAll s.heap vs out }) :
    wpAny (model prog w) A (call (.builtin "sorted") [.ref l]) Q E s := by
  refine Calls.call_function_entry kind_sorted plain_sorted entry_sorted (args_sorted1 _) ?_
  unfold Builtin.«sorted»
  refine wpAny_bind (m := checkCount "sorted" 1 1 _) (wpAny_pure ?_)
  refine wpAny_bind (collect_tup hl ?_ (by rw [sizeLine_eq]; omega))
  refine wpAny_bind (wpAny_newList ?_ (by rw [sizeLine_eq]; omega))
  have hsz : ((s.heap.push (seqObj "list" #[] 0)).update s.heap.objs.size (Obj.mapSeq (· ++ vs.toArray))).objs.size = s.heap.objs.size + 1 := by
    rw [Heap.size_update, size_push']
  have hoL : (((s.heap.push (seqObj "list" #[] 0)).update s.heap.objs.size (Obj.mapSeq (· ++ vs.toArray))).push (seqObj "list" vs.toArray 0)).get? (s.heap.objs.size + 1) = some (seqObj "list" vs.toArray 0) := by
    rw [← hsz]; exact Heap.get?_push_size _ rfl
  have keep : ∀ b o, s.heap.get? b = some o → o.cls = .type "tuple" → (((s.heap.push (seqObj "list" #[] 0)).update s.heap.objs.size (Obj.mapSeq (· ++ vs.toArray))).push (seqObj "list" vs.toArray 0)).get? b = some o := fun b o q _ => by
    have hlt : b < s.heap.objs.size := Heap.lt_size q
    rw [Heap.get?_push_ne _ _ _ (by rw [hsz]; exact Nat.ne_of_lt (Nat.lt_succ_of_lt hlt)), Heap.get?_update_ne _ _ _ _ (Nat.ne_of_lt hlt), Heap.get?_push_ne _ _ _ (Nat.ne_of_lt hlt)]
    exact q
  show wpAny _ _ _ _ _ { s with heap := ((s.heap.push (seqObj "list" #[] 0)).update s.heap.objs.size (Obj.mapSeq (· ++ vs.toArray))).push (seqObj "list" vs.toArray 0) }
  rw [hsz]
  refine wpAny_bind (wpAny_holding (wpAny_call_entry slot_list_sort ⟨_, hoL, rfl⟩ entry_list_sort (sort_tups hoL h64 hd (x.keeps keep) (fun v => code B (intsOf s.heap v)) (fun v hv ns t => ?_) fun out a1 a2 => ⟨_, rfl, ?_⟩) (args_list_sort _)))
  · obtain ⟨ns0, t0, _⟩ := x v hv
    have e : ns = ns0 := t.ints.symm.trans (t0.keeps keep).ints
    rw [e]
    show code B (intsOf s.heap v) = code B ns0
    rw [t0.ints]
  · exact wpAny_pure ⟨_, rfl, h out a1 a2⟩
end
def rSortUT (K : PySem.W.Frag) (d : Nat) (B : Int) : List V → Hp → VK → Prop := fun vs H Q => ∃ (a : Addr) (xs : List V), vs = [V.ref a] ∧ SqT K H a xs ∧ xs.length < 64 ∧ (∀ x ∈ xs, ∃ ns, TupI K H x ns ∧ ns.length = d ∧ TS.Bd B ns) ∧
  ∀ (ys : List V) (p : Addr), ys.Perm xs → ys.Pairwise (fun x y => ∀ n m, TupI K H x n → TupI K H y m → TS.code B n ≤ TS.code B m) → H p = none → Q (.ref p) (upd H p (.lst ys))
theorem cr_sortTT {X : Cx} {d : Nat} {B : Int} (hd : 1 ≤ d) : CallR X (.builtin "sorted") (rSortUT X.K d B) := by
  intro pins s σ H vs us Q I r h
  obtain ⟨a, xs, rfl, hs, h64, hx, q⟩ := h
  obtain ⟨its, rv, hl, hz⟩ := I.tuple hs
  rw [Vals.ref1 r]
  obtain ⟨e1, e2⟩ := bkV_refs rv fun x m => by
    obtain ⟨ns, ⟨t, e, _⟩, _⟩ := hx x m
    exact ⟨t, e⟩
  refine sorted_tupsT (d := d) (B := B) hl (by rw [← rv.length]; exact h64) hd (fun v hv => ?_) fun out h1 h2 => ?_
  · obtain ⟨t, rfl⟩ := e2 v hv
    have hm : V.ref t ∈ xs := by
      rw [e1]
      exact List.mem_map.mpr ⟨_, hv, rfl⟩
    obtain ⟨ns, ⟨t', e, ht⟩, hn, hb⟩ := hx _ hm
    cases e
    exact ⟨ns, tupI_raw I ht, hn, hb⟩
  · obtain ⟨ep, he'⟩ := PyProof.Rows.sortedAll_at s.heap its out
    have h3 : ∀ u ∈ out.toList, ∃ a, u = Value.ref a := fun u hu => e2 u (h1.mem_iff.mp hu)
    have hp : (out.toList.map bkV).Perm xs := by
      rw [e1]
      exact h1.map bkV
    have hlen : (out.toList.map bkV).length ≤ sizeLine := by
      rw [hp.length_eq]
      exact hz
    refine ⟨.ref _, upd H (s.heap.objs.size + 1) (.lst (out.toList.map bkV)), I.laid (t' := s.toks) (fun _ _ => PyProof.Rows.sortedAll_old) (Nat.le_succ _) ⟨hlen, out.toList, ep, bkV_vals h3, he'⟩, rfl, q _ _ hp ?_ (I.hok.fresh (Nat.le_succ _))⟩
    rw [List.pairwise_map]
    refine List.Pairwise.imp (fun {u v} huv n m hn hm => ?_) h2
    obtain ⟨t, et, ht⟩ := hn
    obtain ⟨t', et', ht'⟩ := hm
    have eu := bkV_ref et
    have ev := bkV_ref et'
    have i1 : TS.intsOf s.heap u = n := by
      rw [eu]
      exact (tupI_raw I ht).ints
    have i2 : TS.intsOf s.heap v = m := by
      rw [ev]
      exact (tupI_raw I ht').ints
    rw [← i1, ← i2]
    exact huv
end G0
namespace G0
open PySem PySem.Spec PyProof.Rows L2
/-! ### str of an own object, by its __str__ -/
section
variable {X : Cx} {CX : CXT} {k : Nat} {f C : Addr} {fd : FuncData} {ps : List Str} {sp : Sp} {dvs : List V} {ds : List Value} {E : XK}
theorem run_fn2 {pins : List (Addr × Obj)} {σ : L2.St} {H : Hp} {s : Shared} {Q : VK} {us : List Value} {vs : List V}
    (F : FnOk X.prog X.w X.K X.mg X.base CX k f fd ps sp) (hr : Room (k + 2) X.A) (hb : Binds X.K fd ps ds) (hd : Vals dvs ds) (hx : Passes CX X E)
    (I : Inv X pins σ H s) (r : Vals vs us) (h : sp (vs ++ dvs) H Q E) : wpAny (model X.prog X.w) X.A.in1.in1 (call (.ref f) us) (EP X pins σ Q) X.xe s := by
  have r2 : Vals (vs ++ dvs) (us ++ ds) := r.append hd
  have hl : (us ++ ds).length = ps.length := by rw [← r2.length]; exact F.len _ _ _ _ h
  refine wpAny_call (codeAny_mono (F.run X.A.in1.in1 X.stack s H ⟨us, []⟩ (us ++ ds) (vs ++ dvs) Q E hr.in1.in1 I.env0.in1.in1 (hb s us I.kIn hl) r2 h) fun r s' hq => ?_)
  cases r with
  | error e => exact hx pins σ H s e s' I hq
  | ok fl =>
    cases fl with
    | ret u => exact I.after hq
    | next => exact False.elim hq
    | brk => exact False.elim hq
    | cont => exact False.elim hq
def rStrOwn (C : Addr) (sp : Sp) (E : XK) : List V → Hp → VK → Prop := fun xs H Q => ∃ (a dx : Addr) (fs : List (Str × V)), xs = [.ref a] ∧ H a = some (.ins C dx fs) ∧
  sp [.ref a] H (fun v H2 => ∃ z : Str, v = .str z ∧ Q (.str z) H2) E
theorem call_strOwn (hm : Meth X.K C "__str__" f) (F : FnOk X.prog X.w X.K X.mg X.base CX k f fd ps sp) (hr : Room (k + 2) X.A) (hb : Binds X.K fd ps []) (hx : Passes CX X E) :
    CallR X (.type "str") (rStrOwn C sp E) := by
  intro pins s σ H xs us Q I r h
  obtain ⟨a, dx, fs, rfl, e, q⟩ := h
  obtain ⟨u, rfl, ru⟩ := vals1 r
  obtain rfl : u = Value.ref a := ru
  obtain ⟨mA, O, _, _, _, _⟩ := ins_get I.hok e
  obtain ⟨od, ho, _⟩ := lookIn_ns O.ns
  have IA : PySem.W.InstAt s.heap a (PySem.W.instObj C dx) C (some od) := ⟨O.obj, rfl, rfl, ho⟩
  refine PySem.W.kso_call (by have := hr.in1.in1.un; omega) I.kIn IA hm.at_ hm.fn (wpAny_mono (run_fn2 (us := [.ref a]) (vs := [.ref a]) F hr hb .nil hx I (.cons rfl .nil) q) (fun r s' hr' => ?_) fun _ _ y => y)
  obtain ⟨v, H', I', rv, z, rfl, q'⟩ := hr'
  obtain ⟨t, rfl⟩ := (show ∃ t, r = Value.str z t from rv)
  exact ⟨.str z, H', I', ⟨_, rfl⟩, q'⟩
/-! ### == of an own object with another one or a list, by its __eq__, which tells either -/
def rEqOwn (K : PySem.W.Frag) (C : Addr) (sp : Sp) (E : XK) : R2 := fun x y H Q => ∃ (a dx : Addr) (fs : List (Str × V)), x = .ref a ∧ H a = some (.ins C dx fs) ∧
  ((∃ (b dy : Addr) (gs : List (Str × V)), y = .ref b ∧ H b = some (.ins C dy gs)) ∨ ∃ (b : Addr) (ys : List V), y = .ref b ∧ H b = some (.lst ys) ∧ PySem.W.subIn K (.type "list") (.ref C) = some false) ∧
  sp [.ref a, y] H (fun v H2 => ∃ b : Bool, v = .bl b ∧ Q (.bl b) H2) E
theorem op_eqOwn (F : FnOk X.prog X.w X.K X.mg X.base CX k f fd ps sp) (hs : PySem.W.findIn X.K (.ref C) "__eq__" = some (some (.ref f))) (hf : PySem.W.isFn X.K (.ref f) = true) (hr : Room k X.A) (hb : Binds X.K fd ps []) (hx : Passes CX X E) :
    OpR X (compareOp .Eq) (rEqOwn X.K C sp E) := by
  intro pins s σ H x y v u Q I rx ry hq
  obtain ⟨a, dx, fs, rfl, ha, ty, hsp⟩ := hq
  cases rx
  obtain ⟨mA, J, _⟩ := ins_get I.hok ha
  obtain ⟨od, J, _⟩ := J.look
  obtain ⟨m, hF⟩ := I.fr
  obtain ⟨c, rfl, tb, lt, nf⟩ : ∃ c : Addr, u = Value.ref c ∧ ∃ tb : Value, PySem.W.Looks (model X.prog X.w) s.heap (typeOf (.ref c)) tb ∧ PySem.W.notFirst X.K C tb = true := by
    rcases ty with ⟨b, dy, gs, rfl, hb'⟩ | ⟨b, ys, rfl, hb', sf⟩
    · cases ry
      obtain ⟨mB, J', _⟩ := ins_get I.hok hb'
      obtain ⟨od', J', _⟩ := J'.look
      exact ⟨b, rfl, .ref C, J'.type, by simp [PySem.W.notFirst]⟩
    · cases ry
      obtain ⟨its, _, ⟨o, n, e, c1, _⟩, _⟩ := I.list (SqL.of (K := X.K) hb')
      exact ⟨b, rfl, .type "list", PySem.W.kitAt_ty _ _ ⟨o, e, c1⟩, by simp [PySem.W.notFirst, sf]⟩
  show wpAny (model X.prog X.w) X.A (richCompare .Eq (.ref a) (.ref c)) (EP X pins σ Q) X.xe s
  have ry' : RelV y (.ref c) := ry
  refine PySem.W.cmp_K (op := .Eq) (tb := tb) hr.units0 hF I.ok.mod.kin J lt nf hs hf ?_
  have hl := F.len _ _ _ _ hsp
  have r2 : Vals [V.ref a, y] [Value.ref a, Value.ref c] := .cons rfl (.cons ry' .nil)
  refine wpAny_call (codeAny_mono (F.run X.A X.stack s H ⟨[.ref a, .ref c], []⟩ [.ref a, .ref c] [.ref a, y] _ E hr I.env0 (by
    have := hb s [.ref a, .ref c] I.kIn (by simpa using hl)
    simpa using this) r2 hsp) fun r s' hq => ?_)
  cases r with
  | error e => exact hx pins σ H s e s' I hq
  | ok fl =>
    cases fl with
    | ret w =>
      obtain ⟨z, H', I', rz, b, ez, qq⟩ := I.after hq
      subst ez
      cases rz
      exact ⟨.bl b, H', I', rfl, qq⟩
    | next => exact False.elim hq
    | brk => exact False.elim hq
    | cont => exact False.elim hq
end
end G0
namespace G0
open PySem PySem.Spec PyProof.Rows L2 PySem.Calls
/-! ### list(zip(xs, ys)) as a value -/
abbrev ZipO (h : Heap) (z TI TO : Addr) (a : Addr) (f : Bool) : Prop :=
  h.get? z = some { cls := .type "zip", dict := none, data := .fields #[rawInt a, .bool f, .bool false, .ref TI, .ref TO], slots := #[] }
theorem zip_no_len : typeLookup (.type "zip") "__len__" = pure none := by rw [typeLookup_type, builtinLookup_eq_fast]; kernel_rfl
theorem zip_no_hint : typeLookup (.type "zip") "__length_hint__" = pure none := by rw [typeLookup_type, builtinLookup_eq_fast]; kernel_rfl
section
variable {prog : Program} {w : World} {A : Around} {E : Value → Shared → Prop} {s : Shared}
variable {z TI TO i1 i2 l1 l2 a : Addr} {f : Bool} {oa : Obj} {k1 k2 : Nat} {xs ys : Array Value} {x y : Value}
theorem zip_marked {Q : Bool → Shared → Prop} (hz : ZipO s.heap z TI TO a f) (ha : s.heap.get? a = some oa)
    (hQ : ∀ h', ZipO h' z TI TO a true → Heap.SameBut z s.heap h' → Q false { s with heap := h' }) : wpAny (model prog w) A (Builtin.SmallTypes.ownedTupleIsFree (.ref z)) Q E s := by
  unfold Builtin.SmallTypes.ownedTupleIsFree
  refine wpAny_bind (wpAny_field hz rfl (x := rawInt a) rfl ?_)
  show wpAny _ _ (loadIfAlive ((a : Int).toNat) >>= _) _ _ _
  rw [Int.toNat_natCast]
  refine wpAny_bind (PySem.W.kdx_alive ha ?_)
  simp only [Option.isNone_some, Bool.false_eq_true, if_false]
  refine wpAny_bind (wpAny_field hz rfl (x := .bool f) rfl ?_)
  cases f with
  | true =>
    rw [if_neg (show ¬ ((Value.bool true != Value.bool true) = true) from Bool.false_ne_true)]
    exact wpAny_pure (hQ s.heap hz (Heap.SameBut.refl _ _))
  | false =>
    rw [if_pos (show (Value.bool false != Value.bool true) = true from rfl)]
    exact wpAny_bind (wpAny_setField_rec hz (by simp) fun h₃ he₃ hs₃ => wpAny_pure (hQ h₃ he₃ hs₃))
theorem zip_out_item {Q : Value → Shared → Prop} (D : ZipApart z TI TO i1 i2 l1 l2)
    (hz : ZipO s.heap z TI TO a f) (ha : s.heap.get? a = some oa) (hTI : IsPair s.heap TI (.ref i1) (.ref i2))
    (h1 : s.heap.IsListIter i1 l1 k1) (h2 : s.heap.IsListIter i2 l2 k2) (hl1 : s.heap.IsList l1 xs) (hl2 : s.heap.IsList l2 ys) (hx : xs[k1]? = some x) (hy : ys[k2]? = some y)
    (hQ : ∀ h', ZipO h' z TI TO a true → h'.IsListIter i1 l1 (k1 + 1) → h'.IsListIter i2 l2 (k2 + 1) → IsPair h' s.heap.objs.size x y → h'.objs.size = s.heap.objs.size + 1 →
      (∀ c o, c ≠ z → c ≠ i1 → c ≠ i2 → s.heap.get? c = some o → h'.get? c = some o) → Q (.ref s.heap.objs.size) { s with heap := h' }) :
    wpAny (model prog w) A (Builtin.«zip.__next__» ⟨[.ref z], []⟩) (fun fin s' => ∃ v, fin = .done (.ret v) ∧ Q v s') E s := by
  show wpAny _ _ (field (.ref z) 2 >>= _) _ _ _
  refine wpAny_bind (wpAny_field hz rfl (x := .bool false) rfl ?_)
  show wpAny _ _ (field (.ref z) 3 >>= _) _ _ _
  refine wpAny_bind (wpAny_field hz rfl (x := .ref TI) rfl ?_)
  refine wpAny_bind (wpAny_seqItems hTI rfl ?_)
  show wpAny _ _ (Builtin.SmallTypes.ownedTupleIsFree (.ref z) >>= _) _ _ _
  refine wpAny_bind (zip_marked hz ha fun h₁ hz₁ hs₁ => ?_)
  simp only [Bool.false_eq_true, if_false, List.forIn_toArray, List.forIn_cons, List.forIn_nil]
  have hsz1 : h₁.objs.size = s.heap.objs.size := hs₁.1
  refine wpAny_bind (wpAny_bind (wpAny_bind (wpAny_holding ?_)))
  show wpAny _ _ (Builtin.SmallTypes.nextOf (.ref i1) >>= _) _ _ _
  refine wpAny_bind (wpAny_nextOf_list_item (h1.extBut hs₁.extBut D.i1z) (hl1.extBut hs₁.extBut D.l1z) hx fun h₂ h1₂ hs₂ => wpAny_pure ?_)
  refine wpAny_pure ?_
  show wpAny _ _ ((_ : Sem _) >>= _) _ _ _
  refine wpAny_bind (wpAny_bind (wpAny_holding ?_))
  show wpAny _ _ (Builtin.SmallTypes.nextOf (.ref i2) >>= _) _ _ _
  refine wpAny_bind (wpAny_nextOf_list_item ((h2.extBut hs₁.extBut D.i2z).extBut hs₂.extBut D.i12.symm) ((hl2.extBut hs₁.extBut D.l2z).extBut hs₂.extBut D.l2i1) hy fun h₃ h2₃ hs₃ => wpAny_pure ?_)
  refine wpAny_pure (wpAny_pure ?_)
  show wpAny _ _ (newTuple [x, y] >>= _) _ _ _
  refine wpAny_bind (wpAny_newTuple ?_)
  have hsz : h₃.objs.size = s.heap.objs.size := by rw [hs₃.1, hs₂.1, hs₁.1]
  have hk : ∀ c o, c ≠ z → c ≠ i1 → c ≠ i2 → s.heap.get? c = some o → (h₃.push { cls := .type "tuple", data := .seq #[x, y] }).get? c = some o := fun c o c1 c2 c3 e =>
    Heap.get?_push_of_some _ (hs₃.extBut _ _ c3 (hs₂.extBut _ _ c2 (hs₁.extBut _ _ c1 e)))
  refine wpAny_pure ⟨_, rfl, ?_⟩
  show Q (.ref h₃.objs.size) _
  rw [hsz]
  refine hQ _ (Heap.get?_push_of_some _ (hs₃.extBut _ _ D.i2z.symm (hs₂.extBut _ _ D.i1z.symm hz₁))) ((h1₂.extBut hs₃.extBut D.i12).at fun o e => Heap.get?_push_of_some _ e) (h2₃.at fun o e => Heap.get?_push_of_some _ e) ?_ (by rw [Heap.size_push, hsz]) hk
  rw [← hsz]
  exact Heap.get?_push_size _ rfl
theorem zip_out_end {Q : Fin → Shared → Prop} (hh : A.handled = none) (D : ZipApart z TI TO i1 i2 l1 l2)
    (hz : ZipO s.heap z TI TO a f) (ha : s.heap.get? a = some oa) (hTI : IsPair s.heap TI (.ref i1) (.ref i2))
    (h1 : s.heap.IsListIter i1 l1 k1) (h2 : s.heap.IsListIter i2 l2 k2) (hl1 : s.heap.IsList l1 xs) (hl2 : s.heap.IsList l2 ys) (hend : xs[k1]? = none ∨ ys[k2]? = none)
    (hE : ∀ h' e, (∀ c o, c ≠ z → c ≠ i1 → c ≠ i2 → s.heap.get? c = some o → h'.get? c = some o) → (∃ o, h'.get? e = some o ∧ o.cls = .type "StopIteration") → E (.ref e) { s with heap := h' }) :
    wpAny (model prog w) A (Builtin.«zip.__next__» ⟨[.ref z], []⟩) Q E s := by
  show wpAny _ _ (field (.ref z) 2 >>= _) _ _ _
  refine wpAny_bind (wpAny_field hz rfl (x := .bool false) rfl ?_)
  show wpAny _ _ (field (.ref z) 3 >>= _) _ _ _
  refine wpAny_bind (wpAny_field hz rfl (x := .ref TI) rfl ?_)
  refine wpAny_bind (wpAny_seqItems hTI rfl ?_)
  show wpAny _ _ (Builtin.SmallTypes.ownedTupleIsFree (.ref z) >>= _) _ _ _
  refine wpAny_bind (zip_marked hz ha fun h₁ hz₁ hs₁ => ?_)
  simp only [Bool.false_eq_true, if_false, List.forIn_toArray, List.forIn_cons, List.forIn_nil]
  refine wpAny_bind (wpAny_bind (wpAny_bind (wpAny_holding ?_)))
  show wpAny _ _ (Builtin.SmallTypes.nextOf (.ref i1) >>= _) _ _ _
  cases hx : xs[k1]? with
  | none =>
    refine wpAny_bind (wpAny_nextOf_list_end hh (h1.extBut hs₁.extBut D.i1z) (hl1.extBut hs₁.extBut D.l1z) hx fun h₂ e hs₂ he => ?_)
    exact hE h₂ e (fun c o c1 c3 _ x => hs₂ _ _ c3 (hs₁.extBut _ _ c1 x)) he
  | some x =>
    have hy : ys[k2]? = none := by rcases hend with h | h; rw [hx] at h; cases h; exact h
    refine wpAny_bind (wpAny_nextOf_list_item (h1.extBut hs₁.extBut D.i1z) (hl1.extBut hs₁.extBut D.l1z) hx fun h₂ h1₂ hs₂ => wpAny_pure ?_)
    refine wpAny_pure ?_
    show wpAny _ _ ((_ : Sem _) >>= _) _ _ _
    refine wpAny_bind (wpAny_bind (wpAny_holding ?_))
    show wpAny _ _ (Builtin.SmallTypes.nextOf (.ref i2) >>= _) _ _ _
    refine wpAny_bind (wpAny_nextOf_list_end hh ((h2.extBut hs₁.extBut D.i2z).extBut hs₂.extBut D.i12.symm) ((hl2.extBut hs₁.extBut D.l2z).extBut hs₂.extBut D.l2i1) hy fun h₄ e hs₄ he => ?_)
    exact hE h₄ e (fun c o c1 c3 c4 x => hs₄ _ _ c4 (hs₂.extBut _ _ c3 (hs₁.extBut _ _ c1 x))) he
/-- the state ahead of turn i: S is the list that grows -/
structure ZvSt (h : Heap) (z TI TO i1 i2 l1 l2 S : Addr) (xs ys : Array Value) (i : Nat) : Prop where
  zz : (i = 0 ∧ IsZip h z TI TO .none ∧ ∃ a b, IsPair h TO a b) ∨ ∃ a f oa, ZipO h z TI TO a f ∧ h.get? a = some oa ∧ a ≠ z ∧ a ≠ S ∧ a ≠ i1 ∧ a ≠ i2
  ti : IsPair h TI (.ref i1) (.ref i2)
  h1 : h.IsListIter i1 l1 i
  h2 : h.IsListIter i2 l2 i
  a1 : h.IsList l1 xs
  a2 : h.IsList l2 ys
structure ZvAp (z TI TO i1 i2 l1 l2 S : Addr) : Prop where
  D : ZipApart z TI TO i1 i2 l1 l2
  z : z < S
  TI : TI < S
  TO : TO < S
  i1 : i1 < S
  i2 : i2 < S
  l1 : l1 < S
  l2 : l2 < S
variable {S : Addr} {i : Nat}
theorem ZvSt.keep {h h' : Heap} (Z : ZvAp z TI TO i1 i2 l1 l2 S) (x : ZvSt h z TI TO i1 i2 l1 l2 S xs ys i) (hk : ∀ b o, b ≠ S → h.get? b = some o → h'.get? b = some o) : ZvSt h' z TI TO i1 i2 l1 l2 S xs ys i := by
  have n := fun {b : Addr} (h : b < S) => Nat.ne_of_lt h
  refine ⟨?_, hk _ _ (n Z.TI) x.ti, x.h1.at fun o e => hk _ _ (n Z.i1) e, x.h2.at fun o e => hk _ _ (n Z.i2) e, x.a1.at fun o e => hk _ _ (n Z.l1) e, x.a2.at fun o e => hk _ _ (n Z.l2) e⟩
  rcases x.zz with ⟨e, hz, a, b, hTO⟩ | ⟨a, f, oa, hz, ha, h1, h2, h3, h4⟩
  · exact .inl ⟨e, hk _ _ (n Z.z) hz, a, b, hk _ _ (n Z.TO) hTO⟩
  · exact .inr ⟨a, f, oa, hk _ _ (n Z.z) hz, hk _ _ h2 ha, h1, h2, h3, h4⟩
theorem zv_item {Q : Option Value → Shared → Prop} (Z : ZvAp z TI TO i1 i2 l1 l2 S) (st : ZvSt s.heap z TI TO i1 i2 l1 l2 S xs ys i) (hS : S < s.heap.objs.size) (hx : xs[i]? = some x) (hy : ys[i]? = some y)
    (hQ : ∀ h', ZvSt h' z TI TO i1 i2 l1 l2 S xs ys (i + 1) → IsPair h' s.heap.objs.size x y → h'.objs.size = s.heap.objs.size + 1 →
      (∀ c o, S ≤ c → s.heap.get? c = some o → h'.get? c = some o) → (∀ c o, c ≠ z → c ≠ TO → c ≠ i1 → c ≠ i2 → s.heap.get? c = some o → h'.get? c = some o) → Q (some (.ref s.heap.objs.size)) { s with heap := h' }) :
    wpAny (model prog w) A (pyNext (.ref z)) Q E s := by
  have D := Z.D
  have n := fun {b : Addr} (h : b < S) (c : Addr) (hc : S ≤ c) => (Nat.ne_of_lt (Nat.lt_of_lt_of_le h hc)).symm
  have top := fun {b : Addr} (h : b < S) => (Nat.ne_of_lt (Nat.lt_trans h hS)).symm
  rcases st.zz with ⟨rfl, hz, a, b, hTO⟩ | ⟨a, f, oa, hz, ha, n1, n2, n3, n4⟩
  · refine wpAny_pyNext_zip_item D hz st.ti hTO st.h1 st.h2 st.a1 st.a2 hx hy fun h' b1 b2 b3 b4 b5 b6 hk => ?_
    refine hQ h' ⟨.inr ⟨_, false, _, b1, b5, top Z.z, Nat.ne_of_gt hS, top Z.i1, top Z.i2⟩, hk _ _ D.TIz D.TITO D.TIi1 D.TIi2 st.ti, b3, b4, st.a1.at fun o e => hk _ o D.l1z D.l1TO D.l1i1 D.l1i2 e, st.a2.at fun o e => hk _ o D.l2z D.l2TO D.l2i1 D.l2i2 e⟩ b5 b6 ?_ hk
    exact fun c o hc e => hk c o (n Z.z c hc) (n Z.TO c hc) (n Z.i1 c hc) (n Z.i2 c hc) e
  · have hT : s.TypeIs (.ref z) "zip" := ⟨_, hz, rfl⟩
    unfold pyNext
    refine wpAny_bind (wpAny_attempt (wpAny_callSpecial?_slot (name := Str.ofString "__next__") hT F.slot_zip_next
      (wpAny_call_entry F.slot_zip_next hT F.entry_zip_next
        (zip_out_item D hz ha st.ti st.h1 st.h2 st.a1 st.a2 hx hy fun h' b1 b3 b4 b5 b6 hk => wpAny_pure ?_) (F.args_zip_next_1 _))))
    refine hQ h' ⟨.inr ⟨a, true, oa, b1, hk _ _ n1 n3 n4 ha, n1, n2, n3, n4⟩, hk _ _ D.TIz D.TIi1 D.TIi2 st.ti, b3, b4, st.a1.at fun o e => hk _ o D.l1z D.l1i1 D.l1i2 e, st.a2.at fun o e => hk _ o D.l2z D.l2i1 D.l2i2 e⟩ b5 b6 ?_ fun c o h1 _ h3 h4 e => hk c o h1 h3 h4 e
    exact fun c o hc e => hk c o (n Z.z c hc) (n Z.i1 c hc) (n Z.i2 c hc) e
theorem zv_done {Q : Option Value → Shared → Prop} (hh : A.handled = none) (Z : ZvAp z TI TO i1 i2 l1 l2 S) (st : ZvSt s.heap z TI TO i1 i2 l1 l2 S xs ys i) (hend : xs[i]? = none ∨ ys[i]? = none)
    (hQ : ∀ h', (∀ c o, c ≠ z → c ≠ TO → c ≠ i1 → c ≠ i2 → s.heap.get? c = some o → h'.get? c = some o) → Q none { s with heap := h' }) :
    wpAny (model prog w) A (pyNext (.ref z)) Q E s := by
  have D := Z.D
  rcases st.zz with ⟨rfl, hz, a, b, hTO⟩ | ⟨a, f, oa, hz, ha, n1, n2, n3, n4⟩
  · exact wpAny_pyNext_zip_end hh D hz st.ti hTO st.h1 st.h2 st.a1 st.a2 hend hQ
  · have hT : s.TypeIs (.ref z) "zip" := ⟨_, hz, rfl⟩
    unfold pyNext
    refine wpAny_bind (wpAny_attempt (wpAny_callSpecial?_slot (name := Str.ofString "__next__") hT F.slot_zip_next
      (wpAny_call_entry F.slot_zip_next hT F.entry_zip_next (zip_out_end hh D hz ha st.ti st.h1 st.h2 st.a1 st.a2 hend fun h' e hk he => ?_) (F.args_zip_next_1 _))))
    obtain ⟨o, ho, hc⟩ := he
    refine wpAny_bind (wpAny_isInstance (T := "StopIteration") (b := true) ⟨o, ho, hc⟩ isSubtype_stop ?_)
    exact wpAny_pure (hQ _ fun c o h1 _ h3 h4 e => hk c o h1 h3 h4 e)
structure ZvG (xs ys : Array Value) (lo : Addr) (h : Heap) (as : List Addr) : Prop where
  rise : as.Pairwise (· < ·)
  above : ∀ a ∈ as, lo < a
  pairs : ∀ (j : Nat) (a : Addr), as[j]? = some a → ∃ x y, xs[j]? = some x ∧ ys[j]? = some y ∧ IsPair h a x y
theorem ZvG.there {lo : Addr} {h : Heap} {as : List Addr} (g : ZvG xs ys lo h as) {a : Addr} (ha : a ∈ as) : a < h.objs.size := by
  obtain ⟨j, hj⟩ := List.mem_iff_getElem?.mp ha
  obtain ⟨_, _, _, _, e⟩ := g.pairs j a hj
  exact Heap.lt_size e
theorem zv_loop {R : Result → Shared → Prop} (hh : A.handled = none) (Z : ZvAp z TI TO i1 i2 l1 l2 S) {n : Nat} (hn : n ≤ sizeLine) (nx : n ≤ xs.size) (ny : n ≤ ys.size) (nend : n = xs.size ∨ n = ys.size) (res : Value) {h₁ : Heap}
    (hR : ∀ h' tk acc c as, (∀ b o, b ≠ S → b ≠ z → b ≠ TO → b ≠ i1 → b ≠ i2 → h₁.get? b = some o → h'.get? b = some o) → h'.get? S = some { cls := .type "list", dict := none, data := .seq acc c, slots := #[] } → as.length = n → ZvG xs ys S h' as →
      acc.toList = as.map Value.ref → R (.ok (.ret res)) { s with heap := h', toks := tk }) :
    ∀ (k i : Nat) (h : Heap) (tk c : Nat) (acc : Array Value) (as : List Addr), n - i = k → i ≤ n → ZvSt h z TI TO i1 i2 l1 l2 S xs ys i → (∀ b o, b ≠ S → b ≠ z → b ≠ TO → b ≠ i1 → b ≠ i2 → h₁.get? b = some o → h.get? b = some o) →
      h.get? S = some { cls := .type "list", dict := none, data := .seq acc c, slots := #[] } → acc.toList = as.map Value.ref → as.length = i → ZvG xs ys S h as →
      codeAny (model prog w) A (.builtin "list.extend.loop" ⟨[.ref S, .ref z, res], []⟩) R { s with heap := h, toks := tk } := by
  have nS := fun {b : Addr} (h : b < S) (c : Addr) (hc : S ≤ c) => (Nat.ne_of_lt (Nat.lt_of_lt_of_le h hc)).symm
  intro k
  induction k with
  | zero =>
    intro i h tk c acc as hk hi hst hkeep hS hacc hal hG
    have hin : i = n := by omega
    refine codeAny_builtin PySem.F.entry_extend_loop ?_
    rw [Around.under_plainId PySem.F.plain_extend_loop _]
    show wpAny _ A.in1 (pyNext (.ref z) >>= _) _ _ _
    refine wpAny_bind (zv_done (s := { s with heap := h, toks := tk }) (A := A.in1) hh Z hst (by
      rcases nend with e | e
      · exact .inl (Array.getElem?_eq_none (by omega))
      · exact .inr (Array.getElem?_eq_none (by omega))) fun h' he => ?_)
    have up := fun (c : Addr) (hc : S ≤ c) (o : Obj) (e : h.get? c = some o) => he c o (nS Z.z c hc) (nS Z.TO c hc) (nS Z.i1 c hc) (nS Z.i2 c hc) e
    refine wpAny_pure (hR h' tk acc c as (fun b o g1 g2 g3 g4 g5 e => he b o g2 g3 g4 g5 (hkeep b o g1 g2 g3 g4 g5 e)) (up S (Nat.le_refl _) _ hS) (by omega) ⟨hG.rise, hG.above, fun j a hj => ?_⟩ hacc)
    obtain ⟨x, y, e1, e2, e3⟩ := hG.pairs j a hj
    exact ⟨x, y, e1, e2, up a (Nat.le_of_lt (hG.above a (List.mem_of_getElem? hj))) _ e3⟩
  | succ k ih =>
    intro i h tk c acc as hk hi hst hkeep hS hacc hal hG
    have hlt : i < n := by omega
    have hSl : S < h.objs.size := Heap.lt_size hS
    obtain ⟨x, hx⟩ : ∃ x, xs[i]? = some x := ⟨xs[i], Array.getElem?_eq_getElem (by omega)⟩
    obtain ⟨y, hy⟩ : ∃ y, ys[i]? = some y := ⟨ys[i], Array.getElem?_eq_getElem (by omega)⟩
    have hsz : acc.size = i := by rw [← Array.length_toList, hacc, List.length_map, hal]
    refine codeAny_builtin PySem.F.entry_extend_loop ?_
    rw [Around.under_plainId PySem.F.plain_extend_loop _]
    show wpAny _ A.in1 (pyNext (.ref z) >>= _) _ _ _
    refine wpAny_bind (zv_item (s := { s with heap := h, toks := tk }) Z hst hSl hx hy fun h' hst' ht hz hup hkp => ?_)
    dsimp only at ht hz hkp hup ⊢
    have hS' := hup S _ (Nat.le_refl _) hS
    have up : ∀ b o, b ≠ S → h'.get? b = some o → (h'.update S (Obj.mapSeq (·.push (Value.ref h.objs.size)))).get? b = some o := fun b o hb e => (Heap.get?_update_other _ _ (Ne.symm hb)).trans e
    show wpAny _ A.in1 (updateSeq S (·.push (Value.ref h.objs.size)) >>= _) _ _ _
    refine wpAny_bind ?_
    refine wpAny_updateSeq hS' rfl (wpAny_pure ⟨plainId_quiet PySem.F.plain_extend_loop _, ih (i + 1) _ tk _ (acc.push (Value.ref h.objs.size)) (as ++ [h.objs.size]) (by omega) hlt (hst'.keep Z up)
      (fun b o g1 g2 g3 g4 g5 e => up b o g1 (hkp b o g2 g3 g4 g5 (hkeep b o g1 g2 g3 g4 g5 e))) (Heap.get?_update_self _ hS' rfl) (by rw [Array.toList_push, hacc, List.map_append]; rfl) (by rw [List.length_append, hal]; rfl) ⟨?_, ?_, ?_⟩⟩) (by rw [hsz]; omega) (by show (acc.push (Value.ref h.objs.size)).size ≤ sizeLine + 1; rw [Array.size_push, hsz]; omega)
    · refine List.pairwise_append.mpr ⟨hG.rise, List.pairwise_singleton _ _, fun a ha b hb => ?_⟩
      rw [List.mem_singleton.mp hb]
      exact hG.there ha
    · intro a ha
      rcases List.mem_append.mp ha with ha | ha
      · exact hG.above a ha
      · rw [List.mem_singleton.mp ha]; exact hSl
    · intro j b hj
      rcases Nat.lt_trichotomy j as.length with g1 | g1 | g1
      · rw [List.getElem?_append_left g1] at hj
        obtain ⟨x', y', e1, e2, e3⟩ := hG.pairs j b hj
        have hb := hG.above b (List.mem_of_getElem? hj)
        exact ⟨x', y', e1, e2, up b _ (Nat.ne_of_gt hb) (hup b _ (Nat.le_of_lt hb) e3)⟩
      · subst g1
        have hb : h.objs.size = b := by simpa using hj
        subst hb
        exact ⟨x, y, by rw [hal]; exact hx, by rw [hal]; exact hy, up _ _ (Nat.ne_of_gt hSl) ht⟩
      · have hnone : (as ++ [h.objs.size])[j]? = none := List.getElem?_eq_none (by rw [List.length_append, List.length_singleton]; omega)
        rw [hnone] at hj; cases hj
theorem zv_hint {f0 : Value} (hz : IsZip s.heap z TI TO f0) {Q : Bool → Shared → Prop} (h : Q false s ∧ Q true s) : wpAny (model prog w) A (Builtin.List.listLengthHint (.ref z)) Q E s := by
  have hT : s.TypeIs (.ref z) "zip" := ⟨_, hz, rfl⟩
  unfold Builtin.List.listLengthHint
  refine wpAny_bind (wpAny_specialOf hT zip_no_len ?_)
  show wpAny _ A (specialOf (Value.ref z) (Str.ofString "__length_hint__") >>= _) _ _ _
  refine wpAny_bind (wpAny_specialOf hT zip_no_hint ?_)
  refine wpAny_pure ?_
  first | exact h.1 | exact h.2
theorem zv_extend {R : Result → Shared → Prop} (hh : A.handled = none) (Z : ZvAp z TI TO i1 i2 l1 l2 S) {n : Nat} (hn : n ≤ sizeLine) (nx : n ≤ xs.size) (ny : n ≤ ys.size) (nend : n = xs.size ∨ n = ys.size) (res : Value) (c₀ : Nat) (hz : IsZip s.heap z TI TO .none)
    (st : ZvSt s.heap z TI TO i1 i2 l1 l2 S xs ys 0) (hS : s.heap.get? S = some { cls := .type "list", data := .seq #[] c₀ })
    (hR : ∀ h' tk acc c as, (∀ b o, b ≠ S → b ≠ z → b ≠ TO → b ≠ i1 → b ≠ i2 → s.heap.get? b = some o → h'.get? b = some o) → h'.get? S = some { cls := .type "list", dict := none, data := .seq acc c, slots := #[] } → as.length = n → ZvG xs ys S h' as →
      acc.toList = as.map Value.ref → R (.ok (.ret res)) { s with heap := h', toks := tk }) :
    wpAny (model prog w) A.in1 (Builtin.List.listExtendWith (.ref S) (.ref z) res)
      (fun fin s' => match fin with | .done f => R (.ok f) s' | .again c' => c'.quiet = true ∧ codeAny (model prog w) A c' R s') (fun e s' => R (.error e) s') s := by
  have hSz : S ≠ z := (Nat.ne_of_lt Z.z).symm
  have hT : s.TypeIs (.ref z) "zip" := ⟨_, hz, rfl⟩
  unfold Builtin.List.listExtendWith
  refine wpAny_bind (wpAny_typeOf hT ?_)
  have h1 : Builtin.List.listSameRef (.ref S) (.ref z) = false := by simp [Builtin.List.listSameRef, hSz]
  have h2 : (Value.type "zip" == Value.type "list") = false := by decide
  have h3 : (Value.type "zip" == Value.type "tuple") = false := by decide
  simp only [h1, h2, h3, Bool.or_false, Bool.false_eq_true, if_false]
  refine wpAny_bind (wpAny_pyIter_zip hz ?_)
  have key : ∀ (h : Heap) (c₁ tk : Nat), (∀ b o, b ≠ S → s.heap.get? b = some o → h.get? b = some o) →
      h.get? S = some { cls := .type "list", data := .seq #[] c₁ } → codeAny (model prog w) A (.builtin "list.extend.loop" ⟨[.ref S, .ref z, res], []⟩) R { s with heap := h, toks := tk } := by
    intro h c₁ tk hk hS₁
    exact zv_loop (s := s) (h₁ := s.heap) hh Z hn nx ny nend res hR n 0 h tk c₁ #[] [] (Nat.sub_zero _) (Nat.zero_le _) (st.keep Z hk) (fun b o g1 _ _ _ _ e => hk b o g1 e) hS₁ rfl rfl
      ⟨List.Pairwise.nil, (fun _ ha => nomatch ha), (fun j a hj => by simp at hj)⟩
  have two : ∀ b : Bool, wpAny (model prog w) A.in1 (if b = true then do
        rule "list.extend.makes-room"
        Builtin.List.listTouch (Value.ref S)
        again (Code.builtin "list.extend.loop" { pos := [Value.ref S, Value.ref z, res] })
      else again (Code.builtin "list.extend.loop" { pos := [Value.ref S, Value.ref z, res] }))
      (fun fin s' => match fin with | .done f => R (.ok f) s' | .again c' => c'.quiet = true ∧ codeAny (model prog w) A c' R s') (fun e s' => R (.error e) s') s := by
    intro b
    refine wpAny_ite_split (fun _ => ?_) (fun _ => wpAny_pure ⟨plainId_quiet PySem.F.plain_extend_loop _, key _ c₀ _ (fun b o _ e => e) hS⟩)
    refine wpAny_bind (wpAny_rule ?_)
    refine wpAny_bind ?_
    show wpAny _ _ (updateSeq S (·.push .none) >>= fun _ => updateSeq S (·.pop)) _ _ _
    refine wpAny_bind (wpAny_updateSeq hS rfl ?_)
    have hS₂ := Heap.get?_update_self (Obj.mapSeq (·.push Value.none)) hS rfl
    refine wpAny_updateSeq (hz := by seq_fits) hS₂ rfl ?_
    have hS₃ := Heap.get?_update_self (Obj.mapSeq (·.pop)) hS₂ rfl
    refine wpAny_pure ⟨plainId_quiet PySem.F.plain_extend_loop _, key _ _ _ (fun b o hb e => ?_) hS₃⟩
    exact (Heap.get?_update_other _ _ (Ne.symm hb)).trans ((Heap.get?_update_other _ _ (Ne.symm hb)).trans e)
  refine wpAny_bind (wpAny_holding (zv_hint hz ?_))
  exact ⟨two _, two _⟩
theorem zv_init {R : Result → Shared → Prop} (hh : A.handled = none) (Z : ZvAp z TI TO i1 i2 l1 l2 S) {n : Nat} (hn : n ≤ sizeLine) (nx : n ≤ xs.size) (ny : n ≤ ys.size) (nend : n = xs.size ∨ n = ys.size) (hz : IsZip s.heap z TI TO .none)
    (st : ZvSt s.heap z TI TO i1 i2 l1 l2 S xs ys 0) (hS : s.heap.get? S = some { cls := .type "list", data := .seq #[] })
    (hR : ∀ h' tk acc c as, (∀ b o, b ≠ S → b ≠ z → b ≠ TO → b ≠ i1 → b ≠ i2 → s.heap.get? b = some o → h'.get? b = some o) → h'.get? S = some { cls := .type "list", dict := none, data := .seq acc c, slots := #[] } → as.length = n → ZvG xs ys S h' as →
      acc.toList = as.map Value.ref → R (.ok (.ret .none)) { s with heap := h', toks := tk }) :
    wpAny (model prog w) A.in1 (Builtin.«list.__init__» ⟨[.ref S, .ref z], []⟩)
      (fun fin s' => match fin with | .done f => R (.ok f) s' | .again c' => c'.quiet = true ∧ codeAny (model prog w) A c' R s') (fun e s' => R (.error e) s') s := by
  show wpAny _ _ (do let old ← Builtin.List.listItems (.ref S); Builtin.List.listUpdate (.ref S) (fun _ => #[]); letGo old.toList.reverse; Builtin.List.listExtendWith (.ref S) (.ref z) .none) _ _ s
  refine wpAny_bind ?_
  unfold Builtin.List.listItems
  refine wpAny_bind (wpAny_seqItems hS rfl (wpAny_pure ?_))
  show wpAny _ _ (updateSeq S (fun _ => #[]) >>= fun _ => letGo (#[] : Array Value).toList.reverse >>= fun _ => Builtin.List.listExtendWith (.ref S) (.ref z) .none) _ _ s
  refine wpAny_bind (wpAny_updateSeq hS rfl ?_)
  have hS₂ := Heap.get?_update_self (Obj.mapSeq (fun _ => (#[] : Array Value))) hS rfl
  have oth : ∀ b o, b ≠ S → s.heap.get? b = some o → (s.heap.update S (Obj.mapSeq (fun _ => (#[] : Array Value)))).get? b = some o :=
    fun b o hb e => (Heap.get?_update_other _ _ (Ne.symm hb)).trans e
  refine wpAny_bind (wpAny_letGo ?_)
  refine zv_extend hh Z hn nx ny nend .none _ (oth z _ (Nat.ne_of_lt Z.z) hz) (st.keep Z oth) hS₂ (fun h' tk acc c as hk hS' hl hG hacc => ?_)
  exact hR h' tk acc c as (fun b o g1 g2 g3 g4 g5 e => hk b o g1 g2 g3 g4 g5 (oth b o g1 e)) hS' hl hG hacc
/-- list(z), z a zip that has told nothing yet -/
theorem zv_call {Q : Value → Shared → Prop} (hh : A.handled = none) (Z : ZvAp z TI TO i1 i2 l1 l2 s.heap.objs.size) {n : Nat} (hn : n ≤ sizeLine) (nx : n ≤ xs.size) (ny : n ≤ ys.size) (nend : n = xs.size ∨ n = ys.size) (hz : IsZip s.heap z TI TO .none)
    (st : ZvSt s.heap z TI TO i1 i2 l1 l2 s.heap.objs.size xs ys 0)
    (hQ : ∀ h' tk acc c as, (∀ b o, b ≠ z → b ≠ TO → b ≠ i1 → b ≠ i2 → s.heap.get? b = some o → h'.get? b = some o) → h'.get? s.heap.objs.size = some { cls := .type "list", dict := none, data := .seq acc c, slots := #[] } → as.length = n → ZvG xs ys s.heap.objs.size h' as →
      acc.toList = as.map Value.ref → Q (.ref s.heap.objs.size) { s with heap := h', toks := tk }) :
    wpAny (model prog w) A (call (.type "list") [.ref z]) Q E s := by
  refine callType_codes (Q₁ := fun obj s₁ => obj = .ref s.heap.objs.size ∧ s₁ = { s with heap := s.heap.push { cls := .type "list", data := .seq #[] } }) PySem.F.called_list (PySem.F.typeCall_list_1 _) PySem.F.entry_list_init
    (code_list_new _ ⟨rfl, rfl⟩) fun obj s₁ h₁ => ?_
  obtain ⟨rfl, rfl⟩ := h₁
  have hS : (s.heap.push { cls := .type "list", data := .seq #[] }).get? s.heap.objs.size = some { cls := .type "list", data := .seq #[] } := Heap.get?_push_size _ rfl
  refine ⟨⟨_, hS, rfl⟩, PySem.F.args_list_init_2 _ _, zv_init (s := { s with heap := s.heap.push { cls := .type "list", data := .seq #[] } }) (A := A.in1) hh Z hn nx ny nend (Heap.get?_push_of_some _ hz) (st.keep Z fun b o _ e => Heap.get?_push_of_some _ e) hS (fun h' tk acc c as hk hS' hl hG hacc => ?_)⟩
  exact ⟨rfl, hQ h' tk acc c as (fun b o g2 g3 g4 g5 e => hk b o (Nat.ne_of_lt (Heap.lt_size e)) g2 g3 g4 g5 (Heap.get?_push_of_some _ e)) hS' hl hG hacc⟩
end
/-! the rule -/
theorem PlainL.isL {h : Heap} {a : Addr} {xs : Array Value} (p : PlainL h a xs) : h.IsList a xs := p.isList
def putP : Hp → List Addr → List (V × V) → Hp
  | H, a :: as, p :: kvs => putP (upd H a (.tup [p.1, p.2])) as kvs
  | H, _, _ => H
theorem putP_off {b : Addr} : ∀ (as : List Addr) (kvs : List (V × V)) (H : Hp), b ∉ as → putP H as kvs b = H b
  | [], _, _, _ => rfl
  | _ :: _, [], _, _ => rfl
  | a :: as, p :: kvs, H, h => by
    show putP (upd H a (.tup [p.1, p.2])) as kvs b = H b
    rw [putP_off as kvs _ (fun z => h (List.mem_cons_of_mem _ z)), upd_ne (fun z => h (by rw [z]; exact List.mem_cons_self))]
theorem putP_at : ∀ (as : List Addr) (kvs : List (V × V)) (H : Hp), as.length = kvs.length → as.Nodup → Paired (fun (t : Addr) (p : V × V) => putP H as kvs t = some (.tup [p.1, p.2])) as kvs
  | [], [], _, _, _ => .nil
  | [], _ :: _, _, h, _ => by cases h
  | _ :: _, [], _, h, _ => by cases h
  | a :: as, p :: kvs, H, h, hn => by
    have hn' := List.nodup_cons.mp hn
    have ih := putP_at as kvs (upd H a (.tup [p.1, p.2])) (Nat.succ.inj h) hn'.2
    refine .cons ?_ ih
    show putP (upd H a (.tup [p.1, p.2])) as kvs a = some (.tup [p.1, p.2])
    rw [putP_off as kvs _ hn'.1, upd_same]
theorem pairs_laid {X : Cx} {pins : List (Addr × Obj)} {σ : L2.St} {H : Hp} {s : Shared} {h' : Heap} {tk S : Addr} {xs ys : List V} {its its2 : List Value} {acc : Array Value} {c : Nat} {as : List Addr} (I : Inv X pins σ H s) (rx : Vals xs its) (ry : Vals ys its2)
    (hk : ∀ b o, s.heap.get? b = some o → h'.get? b = some o) (hS0 : s.heap.objs.size ≤ S) (hS : h'.get? S = some { cls := .type "list", dict := none, data := .seq acc c, slots := #[] })
    (hl : as.length = min its.length its2.length) (hz : as.length ≤ sizeLine) (hG : ZvG its.toArray its2.toArray S h' as) (hacc : acc.toList = as.map Value.ref) :
    ∃ H' : Hp, Same H H' ∧ H S = none ∧ (∀ t ∈ as, H t = none) ∧ S ∉ as ∧ H' S = some (.lst (as.map V.ref)) ∧ Paired (fun (t : Addr) (q : V × V) => H' t = some (.tup [q.1, q.2])) as (xs.zip ys) ∧ Inv X pins σ H' { s with heap := h', toks := tk } := by
  have lx := rx.length
  have ly := ry.length
  have lz : as.length = (xs.zip ys).length := by rw [List.length_zip, hl, lx, ly]
  have hSn : S ∉ as := fun z => Nat.lt_irrefl _ (hG.above _ z)
  have nd : as.Nodup := List.Pairwise.imp (fun {a b} (h : a < b) => Nat.ne_of_lt h) hG.rise
  have new : ∀ t ∈ as, H t = none := fun t ht => I.hok.fresh (Nat.le_trans hS0 (Nat.le_of_lt (hG.above t ht)))
  have newS : H S = none := I.hok.fresh hS0
  have atP := putP_at as (xs.zip ys) (upd H S (.lst (as.map V.ref))) lz nd
  have off : ∀ b, b ∉ as → b ≠ S → putP (upd H S (.lst (as.map V.ref))) as (xs.zip ys) b = H b := fun b h1 h2 => by rw [putP_off as _ _ h1, upd_ne h2]
  have low : ∀ b o, s.heap.get? b = some o → b ∉ as ∧ b ≠ S := fun b o e => ⟨fun z => absurd (Heap.lt_size e) (Nat.not_lt.mpr (Nat.le_trans hS0 (Nat.le_of_lt (hG.above b z)))), Nat.ne_of_lt (Nat.lt_of_lt_of_le (Heap.lt_size e) hS0)⟩
  have kp : ∀ b u, H b = some u → (putP (upd H S (.lst (as.map V.ref))) as (xs.zip ys)) b = some u := fun b u e => by
    rw [off b (fun z => by rw [new b z] at e; cases e) (fun z => by rw [z, newS] at e; cases e)]
    exact e
  have eS : putP (upd H S (.lst (as.map V.ref))) as (xs.zip ys) S = some (.lst (as.map V.ref)) := by rw [putP_off as _ _ hSn, upd_same]
  refine ⟨putP (upd H S (.lst (as.map V.ref))) as (xs.zip ys), kp, newS, new, hSn, eS, atP, ?_⟩
  refine I.call' (ch := []) rfl ⟨fun b o q _ _ _ => hk b o q, fun b o q _ _ _ => ⟨o.slots, hk b o q⟩, fun b o q n _ => ?_, fun b o q _ => ⟨o, hk b o q⟩, fun b xs q => kp b _ q, fun b o u q => kp b _ q, fun b ps q => ⟨#[], by rw [kp b _ q]; simp⟩⟩ (fun b u q => ?_) I.bare fun b z => by simp at z
  · obtain ⟨z1, z2⟩ := low b o q
    rw [off b z1 z2]
    exact n
  · by_cases hb : b ∈ as
    · obtain ⟨j, pk, e1, e2, e3⟩ := LiI.paired_ix atP hb
      rw [e3] at q
      cases q
      obtain ⟨x, y, f1, f2, f3⟩ := hG.pairs j b e1
      rw [List.getElem?_zip_eq_some] at e2
      have f1' : its[j]? = some x := by simpa using f1
      have f2' : its2[j]? = some y := by simpa using f2
      obtain ⟨u, g1, g2⟩ := rx.get e2.1
      obtain ⟨v, g3, g4⟩ := ry.get e2.2
      rw [f1'] at g1
      rw [f2'] at g3
      cases g1
      cases g3
      exact ⟨by show 2 ≤ sizeLine; decide, [x, y], .cons g2 (.cons g4 .nil), ⟨_, f3, rfl, _, rfl⟩⟩
    · by_cases hb2 : b = S
      · rw [hb2] at q ⊢
        rw [eS] at q
        cases q
        refine ⟨by rw [List.length_map]; exact hz, acc.toList, c, by rw [hacc]; exact LiI.vals_refs as, ?_⟩
        rw [Array.toArray_toList]
        exact hS
      · rw [off b hb hb2] at q
        exact (I.hok b u q).stay (fun d v _ y => hk d v y) (fun d y => kp d _ y) fun d xs y => kp d _ y
def rZipL (K : PySem.W.Frag) : List V → Hp → VK → Prop := fun vs H Q => ∃ (a b : Addr) (xs ys : List V), vs = [.ref a, .ref b] ∧ SqL K H a xs ∧ SqL K H b ys ∧
  ∀ (H' : Hp) (p : Addr) (ts : List Addr), Same H H' → H p = none → (∀ t ∈ ts, H t = none) → p ∉ ts → H' p = some (.lst (ts.map V.ref)) → Paired (fun (t : Addr) (q : V × V) => H' t = some (.tup [q.1, q.2])) ts (xs.zip ys) → Q (.ref p) H'
def tZipL (K : PySem.W.Frag) (ta : TA) : TE := fun σ H Q => ta σ H fun vs H1 => rZipL K vs H1 Q
section
variable {X : Cx} {e e2 : Expr} {ta : TA} {p p2 pos2 pos : Pos}
theorem pe_listZip (hc : X.calm = true) (hg : Gl X "list") (hm : X.mg "list" = none) (hg2 : Gl X "zip") (hm2 : X.mg "zip" = none) (ha : PA X [e, e2] ta)
    (na : starEach [.Call (.Name "zip" p2) [e, e2] [] pos2] X.env = (false, eval (.Call (.Name "zip" p2) [e, e2] [] pos2) X.env) :: starEach [] X.env := by rfl)
    (hs : starEach [e, e2] X.env = (false, eval e X.env) :: starEach [e2] X.env := by rfl) (hpl : (backTo pos2 (starEach [e2] X.env)).any (·.1) = false := by rfl) :
    PE X (.Call (.Name "list" p) [.Call (.Name "zip" p2) [e, e2] [] pos2] [] pos) (tZipL X.K ta) := by
  refine ⟨fun pins s σ H Q I h => ?_⟩
  refine Call_ (ld_blt I hg hm boot_list (PyProof.Rows.callWith_type1 (args_cons ?_ na) na))
  refine Call_ (ld_blt I hg2 hm2 PyProof.Rows.boot_zip (PyProof.Rows.callWith_type1 (thn (ha.run pos2 pins s σ H _ I h) fun us s1 ⟨vs, H1, I1, r1, q1⟩ => ?_) hs hpl))
  obtain ⟨a, b, xs, ys, ex, hqx, hqy, q⟩ := q1
  subst ex
  obtain ⟨u, v, rfl, ru, rv⟩ := vals2 r1
  obtain rfl : u = Value.ref a := ru
  obtain rfl : v = Value.ref b := rv
  obtain ⟨its, rv, p1, z1⟩ := I1.list hqx
  obtain ⟨its2, rv2, p2', z2⟩ := I1.list hqy
  refine call_zip_2 p1.isList p2'.isList fun h' hz hTI hTO h1 h2 hsz hk => ?_
  refine args_nil ?_
  have I2 : Inv X pins σ H1 { s1 with heap := h' } := I1.kept (t' := s1.toks) hk
  have la := p1.lt
  have lb := p2'.lt
  have lz : min its.length its2.length ≤ sizeLine := by rw [← rv.length]; exact Nat.le_trans (Nat.min_le_left ..) z1
  have Z : ZvAp (s1.heap.objs.size + 4) (s1.heap.objs.size + 2) (s1.heap.objs.size + 3) s1.heap.objs.size (s1.heap.objs.size + 1) a b h'.objs.size := by
    have la' : a < s1.heap.objs.size := la
    have lb' : b < s1.heap.objs.size := lb
    rw [hsz]
    exact ⟨PySem.W.ktu_apart s1.heap.objs.size a b la lb, Nat.lt_succ_self _, Nat.add_lt_add_left (by decide) _, Nat.add_lt_add_left (by decide) _, Nat.lt_add_of_pos_right (by decide), Nat.add_lt_add_left (by decide) _, Nat.lt_of_lt_of_le la' (Nat.le_add_right _ _), Nat.lt_of_lt_of_le lb' (Nat.le_add_right _ _)⟩
  have mn : min its.length its2.length = its.toArray.size ∨ min its.length its2.length = its2.toArray.size := by
    rw [List.size_toArray, List.size_toArray]
    rcases Nat.le_total its.length its2.length with e | e
    · exact .inl (Nat.min_eq_left e)
    · exact .inr (Nat.min_eq_right e)
  refine zv_call (s := { s1 with heap := h' }) (n := min its.length its2.length) (xs := its.toArray) (ys := its2.toArray) (I1.ok.hd hc) Z lz (Nat.min_le_left ..) (Nat.min_le_right ..) mn hz
    ⟨.inl ⟨rfl, hz, _, _, hTO⟩, hTI, h1, h2, p1.isList.at fun o e => hk _ o e, p2'.isList.at fun o e => hk _ o e⟩ (fun h2 tk acc c as hk2 hS hl hG hacc => ?_)
  have S0 : s1.heap.objs.size ≤ h'.objs.size := by rw [hsz]; exact Nat.le_add_right _ _
  obtain ⟨H', k1, k2, k3, k4, k5, k6, J⟩ := pairs_laid (tk := tk) (S := h'.objs.size) (h' := h2) (s := s1) I1 rv rv2 (fun b o e => by
    have lt : b < s1.heap.objs.size := Heap.lt_size e
    have n := fun (j : Nat) => Nat.ne_of_lt (Nat.lt_of_lt_of_le lt (Nat.le_add_right _ j))
    exact hk2 b o (n 4) (n 3) (n 0) (n 1) (hk b o e)) S0 hS hl (by rw [hl]; exact lz) hG hacc
  exact ⟨.ref _, H', J, rfl, q H' _ as k1 k2 k3 k4 k5 k6⟩
end
end G0
namespace G0
open PySem PySem.Spec PyProof.Rows L2
/-! ### a set of tuples of ints that grows: set(), t in seen, seen.add(t) -/
def spot (t : SetTable) (h : Int) (c : Nat) : SetTable.Probe := nth t.mask (runAt t.mask (SetTable.bits h % (t.mask + 1)) (SetTable.bits h)) c
theorem spot_dummy (t : SetTable) (h : Int) : ∀ c, (spot t h c).dummy = none
  | 0 => rfl
  | c + 1 => by
    have ih := spot_dummy t h c
    unfold spot at ih ⊢
    rw [nth_succ]
    unfold adv
    split
    · exact ih
    · exact ih
theorem spot_on (t : SetTable) (h : Int) (c q : Nat) : nth t.mask (spot t h c) q = spot t h (c + q) := (nth_add t.mask c _ q).symm
theorem spot_place (t : SetTable) (h : Int) (c : Nat) : (spot t h c).j = way t.mask h c := rfl
section
variable {P : Program} {w : World} {A : Around} {E : Value → Shared → Prop} {s : Shared} {a : Addr} {L : List (Addr × List Int)} {es : Array (Int × Value)} {ep : Nat} {t : SetTable} {x : Addr} {k : List Int}
def heldAt (es : Array (Int × Value)) : Nat → Int := fun i => (es[i]?.map (·.1)).getD 0
theorem heldAt_of (R : SetTR P w s.heap a L es ep t) {i : Nat} {p : Addr × List Int} (hp : L[i]? = some p) : heldAt es i = thash P w p.2 := by
  unfold heldAt
  rw [R.entry hp]
  rfl
/-- looking for a tuple, from the c-th place of its way on; K: the first empty one -/
theorem look_on (R : SetTR P w s.heap a L es ep t) (hx : IsT P w s.heap k x) (room : A.units < cLine) {K : Nat} (few : K < 10 * SetTable.turns t.mask) (open_ : way t.mask (thash P w k) K ∉ t.place.toList)
    (shut : ∀ c, c < K → way t.mask (thash P w k) c ∈ t.place.toList) {Q : SetFound → Shared → Prop} (yes : k ∈ L.map (·.2) → ∀ i, Q (.there (some i)) s) (no : k ∉ L.map (·.2) → ∀ j, Q (.free j false) s) :
    ∀ (fuel c : Nat) (stand : Option SetTable.Probe), stand.getD (t.probeStart (thash P w k)) = spot t (thash P w k) c → c ≤ K → K < c + fuel →
      (∀ (i : Nat) (p : Addr × List Int), L[i]? = some p → p.2 = k → ∃ d, c ≤ d ∧ d < K ∧ t.place.toList[i]? = some (way t.mask (thash P w k) d)) →
      wpAny (model P w) A (setSearchFrom a (.ref x) (thash P w k) false fuel stand) Q E s
  | 0, c, stand, _, le, lt, _ => absurd lt (by omega)
  | fuel + 1, c, stand, st, le, lt, ahead => by
    obtain ⟨o, ho, _, od⟩ := R.ob
    rw [setSearchFrom_succ]
    refine wpAny_bind (wpAny_setState_of ho od R.fits ?_)
    dsimp only
    refine wp_if_neg R.gw ?_
    try refine wpAny_bind (wpAny_pure ?_)
    have told := go_spec t R.tab.ris R.tab.dm (heldAt es) (thash P w k) (10 * SetTable.turns t.mask) (K - c) (spot t (thash P w k) c) (spot_dummy ..) (by omega)
      (fun q lq => by rw [spot_on, spot_place]; exact shut _ (by omega)) (by rw [spot_on, spot_place, show c + (K - c) = K by omega]; exact open_)
    rcases told with ⟨q, i, lq, at_, _, first, pr⟩ | ⟨never, pr⟩
    · rw [spot_on, spot_place] at at_
      have pr' : t.probe (heldAt es) (thash P w k) (stand.getD (t.probeStart (thash P w k))) = some (.candidate (way t.mask (thash P w k) (c + q)) i (spot t (thash P w k) (c + (q + 1)))) := by
        rw [st, ← spot_place, ← spot_on, ← spot_on]
        exact pr
      show wpAny _ _ (do
        let some met := t.probe (heldAt es) (thash P w k) (stand.getD (t.probeStart (thash P w k))) | unsupported "internal:set-table-without-an-empty-slot"
        _) _ _ _
      rw [pr']
      dsimp only
      have il : i < L.length := by
        have z1 : i < t.place.toList.length := (List.getElem?_eq_some_iff.mp at_).1
        have z2 := R.tab.sz
        rw [List.length_map] at z2
        rw [Array.length_toList] at z1
        omega
      obtain ⟨p, hp⟩ : ∃ p, L[i]? = some p := ⟨_, List.getElem?_eq_getElem il⟩
      have pm := List.mem_of_getElem? hp
      have live := slot_live R.tab.ris at_
      have deep : wpAny (model P w) A (searchRest a (.ref x) (thash P w k) false fuel es t (way t.mask (thash P w k) (c + q)) i (spot t (thash P w k) (c + (q + 1)))) Q E s := by
        unfold searchRest
        rw [R.entry hp]
        dsimp only
        refine wpAny_bind (wpAny_holding (wpAny_eqBool_tuple room (R.tup p pm) hx ?_))
        refine wpAny_bind (wpAny_setState_of ho od R.fits ?_)
        dsimp only
        refine wp_if_neg (by simp) ?_
        try refine wpAny_bind (wpAny_pure ?_)
        rw [sameMem]
        dsimp only
        simp only [if_true, live, R.entry hp]
        refine wpAny_bind (wpAny_isSame_ref_self (wpAny_bind (wpAny_pure ?_)))
        simp only [if_true]
        by_cases same : p.2 = k
        · refine wp_if_pos (by simp [same]) ?_
          exact wpAny_pure (yes (List.mem_map.mpr ⟨p, pm, same⟩) i)
        · refine wp_if_neg (by simp [same]) ?_
          refine look_on R hx room few open_ shut yes no fuel (c + (q + 1)) _ rfl (by omega) (by omega) fun i' p' hp' same' => ?_
          obtain ⟨d, d1, d2, d3⟩ := ahead i' p' hp' same'
          refine ⟨d, ?_, d2, d3⟩
          by_cases e1 : d < c + q
          · refine absurd ?_ (first (d - c) i' (by omega) (by rw [spot_on, spot_place, show c + (d - c) = d by omega]; exact d3))
            rw [heldAt_of R hp', same']
          · by_cases e2 : d = c + q
            · rw [e2] at d3
              have live' := slot_live R.tab.ris d3
              rw [live] at live'
              cases live'
              rw [hp] at hp'
              cases hp'
              exact absurd same' same
            · omega
      by_cases led : t.led = true
      · refine wp_if_neg (by simp [led]) ?_
        try refine wpAny_bind (wpAny_pure ?_)
        exact deep
      · refine wp_if_pos (by simp [led]) ?_
        refine wpAny_bind (seen_tup hx (fun y my => ?_) ?_)
        · obtain ⟨r, mr, er⟩ := List.mem_map.mp my
          have mr' : r ∈ es.toList := by
            have : r ∈ es ∧ r.1 = thash P w k := by simpa using mr
            simpa using this.1
          rw [R.rows] at mr'
          obtain ⟨p', mp', ep'⟩ := List.mem_map.mp mr'
          exact ⟨p'.2, p'.1, by rw [← er, ← ep'], R.tup p' mp'⟩
        · refine wp_if_neg (by decide) ?_
          try refine wpAny_bind (wpAny_pure ?_)
          exact deep
    · have pr' : t.probe (heldAt es) (thash P w k) (stand.getD (t.probeStart (thash P w k))) = some (.empty (way t.mask (thash P w k) K) none) := by
        have e9 : nth t.mask (spot t (thash P w k) c) (K - c) = spot t (thash P w k) K := by rw [spot_on, show c + (K - c) = K by omega]
        rw [st, ← spot_place, ← e9]
        exact pr
      show wpAny _ _ (do
        let some met := t.probe (heldAt es) (thash P w k) (stand.getD (t.probeStart (thash P w k))) | unsupported "internal:set-table-without-an-empty-slot"
        _) _ _ _
      rw [pr']
      dsimp only
      refine wpAny_pure (no (fun m => ?_) _)
      obtain ⟨p, mp, same⟩ := List.mem_map.mp m
      obtain ⟨i, hp⟩ := List.mem_iff_getElem?.mp mp
      obtain ⟨d, d1, d2, d3⟩ := ahead i p hp same
      refine absurd ?_ (never (d - c) i (by omega) (by rw [spot_on, spot_place, show c + (d - c) = d by omega]; exact d3))
      rw [heldAt_of R hp, same]
theorem find_tup (R : SetTR P w s.heap a L es ep t) (hx : IsT P w s.heap k x) (room : A.units < cLine) {Q : Option Nat → Shared → Prop} (yes : k ∈ L.map (·.2) → ∀ i, Q (some i) s) (no : k ∉ L.map (·.2) → Q none s) :
    wpAny (model P w) A (setFind a (.ref x) (thash P w k)) Q E s := by
  have small := R.room
  obtain ⟨o, ho, _, od⟩ := R.ob
  obtain ⟨K, few, open_, shut⟩ := R.tab.first (by rw [List.length_map]; omega) (thash P w k)
  have Kb : K < 100000 := by
    refine Nat.lt_of_lt_of_le few (show 10 * SetTable.turns t.mask ≤ 100000 from ?_)
    unfold SetTable.turns
    rcases R.tab.mok with e | e | e <;> omega
  unfold setFind
  rw [show (100000 : Nat) = 99999 + 1 from rfl]
  unfold setFindIn
  refine wpAny_bind (wpAny_setState_of ho od R.fits ?_)
  dsimp only
  refine wp_if_neg (by simp [byScan, Value.scannable]) ?_
  try refine wpAny_bind (wpAny_pure ?_)
  unfold setSearch
  refine wpAny_bind (look_on R hx room few open_ shut (fun m i => ?_) (fun m j => ?_) 100000 0 none rfl (Nat.zero_le _) (by omega) fun i p hp same => ?_)
  · exact wpAny_pure (yes m i)
  · exact wpAny_pure (no m)
  · have e : (L.map fun p => thash P w p.2)[i]? = some (thash P w k) := by
      rw [List.getElem?_map, hp, ← same]
      rfl
    have il : i < t.place.toList.length := by
      have z1 := (List.getElem?_eq_some_iff.mp hp).1
      have z2 := R.tab.sz
      rw [List.length_map] at z2
      rw [Array.length_toList]
      omega
    obtain ⟨d, d1, d2⟩ := R.tab.before open_ e (List.getElem?_eq_getElem il)
    exact ⟨d, Nat.zero_le _, d1, by rw [List.getElem?_eq_getElem il, d2]⟩
theorem SetTR.isSet (R : SetTR P w s.heap a L es ep t) : s.TypeIs (.ref a) "set" := by
  obtain ⟨o, ho, ex, _⟩ := R.ob
  exact ⟨o, ho, ex.1⟩
/-- t in seen -/
theorem in_tup (R : SetTR P w s.heap a L es ep t) (hx : IsT P w s.heap k x) (room : A.units + 64 < cLine) {Q : Value → Shared → Prop}
    (h : Q (.bool (decide (k ∈ L.map (·.2)))) { s with toks := s.toks + (k.length + 1) }) : wpAny (model P w) A (compareOp .In (.ref x) (.ref a)) Q E s := by
  have R' : SetTR P w { s with toks := s.toks + (k.length + 1) }.heap a L es ep t := R
  have ty := SetTR.isSet R
  show wpAny _ _ (do return .bool (← contains (.ref a) (.ref x))) Q E s
  unfold contains
  refine wpAny_bind ?_
  try with_reducible refine wpAny_holding ?_
  refine wpAny_bind (wpAny_specialOf ty F.slot_set_contains.lookup ?_)
  show wpAny _ _ (if (some (Value.builtin "set.__contains__") == some Value.none) = true then _ else _) _ E s
  refine wp_if_neg (by rw [beq_builtin_none]; exact Bool.false_ne_true) ?_
  refine wpAny_bind (wpAny_callSpecialUnlessNone?_slot (name := Str.ofString "__contains__") ty F.slot_set_contains (wpAny_call_entry F.slot_set_contains ty entry_set_contains ?_ (F.args_set_contains_2 _ _)))
  unfold Builtin.«frozenset.__contains__» Builtin.Frozenset.oneOther
  simp only [List.isEmpty_nil, bind_assoc]
  unfold Builtin.Frozenset.addrOf Builtin.Frozenset.withSetAsKey setContains
  refine wpAny_bind (wpAny_pure ?_)
  try dsimp only
  refine wpAny_bind (wpAny_pure ?_)
  try dsimp only
  refine wpAny_bind (wpAny_tryCatch (wpAny_holding (wpAny_bind (wpAny_pyHash_tuple (by simp; omega) hx ?_))))
  refine wpAny_bind (find_tup (s := { s with toks := s.toks + (k.length + 1) }) R' hx (by simp; omega) (fun m i => ?_) (fun m => ?_))
  · rw [decide_eq_true m] at h
    exact wpAny_pure (wpAny_pure ⟨_, rfl, wpAny_truthy_bool (wpAny_pure h)⟩)
  · rw [decide_eq_false m] at h
    exact wpAny_pure (wpAny_pure ⟨_, rfl, wpAny_truthy_bool (wpAny_pure h)⟩)
/-- seen.add(t) -/
theorem add_tup (R : SetTR P w s.heap a L es ep t) (hx : IsT P w s.heap k x) (room : A.units + 64 < cLine) (few : L.length + 1 < 64) {Q : Value → Shared → Prop}
    (h : ∀ h' L' es' ep' t', Heap.SameBut a s.heap h' → SetTR P w h' a L' es' ep' t' → (k ∈ L.map (·.2) → L' = L) → (k ∉ L.map (·.2) → L'.Perm ((x, k) :: L)) → Q .none { s with heap := h', toks := s.toks + (k.length + 1) }) :
    wpAny (model P w) A (call (.builtin "set.add") [.ref a, .ref x]) Q E s := by
  have R' : SetTR P w { s with toks := s.toks + (k.length + 1) }.heap a L es ep t := R
  refine wpAny_call_entry F.slot_set_add (SetTR.isSet R) F.entry_set_add ?_ (F.args_set_add_2 _ _)
  unfold Builtin.«set.add» Builtin.Frozenset.oneOther
  simp only [List.isEmpty_nil, bind_assoc]
  unfold Builtin.Frozenset.addrOf setAdd
  refine wpAny_bind (wpAny_pure ?_)
  try dsimp only
  refine wpAny_bind (wpAny_pure ?_)
  try dsimp only
  refine wpAny_bind (wpAny_holding (wpAny_bind (wpAny_pyHash_tuple (by simp; omega) hx ?_)))
  refine add_at (s := { s with toks := s.toks + (k.length + 1) }) R' hx (by simp; omega) few fun b h' L' es' ep' t' sb new c1 c2 => ?_
  show wpAny _ _ (ret Value.none) _ _ _
  exact wpAny_pure ⟨_, rfl, h h' L' es' ep' t' sb new c1 c2⟩
end
section
variable {X : Cx}
theorem setT_full {pins : List (Addr × Obj)} {σ : L2.St} {H : Hp} {s : Shared} {a : Addr} {L : List (Addr × List Int)} (I : Inv X pins σ H s) (ha : H a = some (SetTO X.prog X.w a L)) (ts : ∀ p ∈ L, SqT X.K H p.1 (p.2.map V.int)) :
    ∃ es ep t, SetTR X.prog X.w s.heap a L es ep t := SetT0.full (I.hok a _ ha).1 fun p hp => I.isT (ts p hp)
/-- set(), to be filled with tuples -/
theorem cr_set0T : CallR X (.type "set") (fun xs H Q => xs = [] ∧ ∀ p, H p = none → Q (.ref p) (upd H p (SetTO X.prog X.w p []))) := by
  rintro pins s σ H xs us Q I r ⟨rfl, q⟩
  cases r
  refine setR_new fun _ => ⟨.ref _, upd H s.heap.objs.size (SetTO X.prog X.w s.heap.objs.size []), ?_, rfl, q _ (I.hok.fresh (Nat.le_refl _))⟩
  exact I.laid (t' := s.toks) (fun b u e => Heap.get?_push_of_some _ e) (Nat.le_refl _) (setTO_new (setTR_fresh (Heap.get?_push_size _ rfl)).t0)
def rInT (K : PySem.W.Frag) (P : Program) (w : World) : V → V → Hp → VK → Prop := fun x y H Q => ∃ (t a : Addr) (k : List Int) (L : List (Addr × List Int)), x = V.ref t ∧ y = V.ref a ∧ H a = some (SetTO P w a L) ∧ SqT K H t (k.map V.int) ∧
  (∀ p ∈ L, SqT K H p.1 (p.2.map V.int)) ∧ Q (.bl (decide (k ∈ L.map (·.2)))) H
theorem op_inT (room : X.A.units + 64 < cLine) : OpR X (compareOp .In) (rInT X.K X.prog X.w) := by
  rintro pins s σ H x y v u Q I rx ry ⟨t, a, k, L, rfl, rfl, ha, ht, ts, q⟩
  cases rx
  cases ry
  obtain ⟨es, ep, tb, R⟩ := setT_full I ha ts
  exact in_tup R (I.isT ht) room ⟨.bl (decide (k ∈ L.map fun p : Addr × List Int => p.2)), H, I.tok _, rfl, q⟩
def rAddT (K : PySem.W.Frag) (P : Program) (w : World) : V → List V → Hp → VK → Prop := fun x vs H Q => ∃ (a t : Addr) (k : List Int) (L : List (Addr × List Int)), x = V.ref a ∧ vs = [V.ref t] ∧ H a = some (SetTO P w a L) ∧ SqT K H t (k.map V.int) ∧
  (∀ p ∈ L, SqT K H p.1 (p.2.map V.int)) ∧ L.length + 1 < 64 ∧ ∀ L', (k ∈ L.map (·.2) → L' = L) → (k ∉ L.map (·.2) → L'.Perm ((t, k) :: L)) → Q .non (upd H a (SetTO P w a L'))
theorem mt_addT (room : X.A.units + 64 < cLine) : MtR X "set.add" (rAddT X.K X.prog X.w) := by
  rintro pins s σ H x vs v us Q I rx rv ⟨a, t, k, L, rfl, rfl, ha, ht, ts, few, q⟩
  cases rx
  obtain ⟨u, rfl, ru⟩ := rv.one
  cases ru
  obtain ⟨es, ep, tb, R⟩ := setT_full I ha ts
  refine add_tup R (I.isT ht) room few fun h' L' es' ep' t' sb new c1 c2 => ?_
  have there : ∃ u, h'.get? a = some u := by
    obtain ⟨o, ho, _⟩ := new.ob
    exact ⟨o, ho⟩
  exact ⟨.non, upd H a (SetTO X.prog X.w a L'), I.write (e := a) (t' := s.toks + (k.length + 1)) (by rw [ha]; trivial) (.inl rfl) (fun b u hb hu => (sb.2 b hb).trans hu) there (setTO_new new.t0), rfl, q L' c1 c2⟩
def tAddT (K : PySem.W.Frag) (P : Program) (w : World) (to : TE) (t : TA) : TE := fun σ H Q => to σ H fun x H1 => (∃ a L, x = V.ref a ∧ H1 a = some (SetTO P w a L) ∧ ∀ p ∈ L, SqT K H1 p.1 (p.2.map V.int)) ∧ t σ H1 fun vs H2 => rAddT K P w x vs H2 Q
variable {o e : Expr} {es : List Expr} {to : TE} {t : TA} {apos cpos : Pos}
theorem pe_addT (room : X.A.units + 64 < cLine) (ho : PE X o to) (ha : PA X (e :: es) t)
    (m1 : attributeBase o "add" X.env (eval o X.env) = eval o X.env := by rfl)
    (m2 : ((backTo cpos (starEach (e :: es) X.env)).all (fun x => !x.1) && (backToKw cpos (keywordEach [] X.env)).all (fun x => x.1.isSome) && decide ((e :: es).length + ([] : List Keyword).length + (if ([] : List Keyword).isEmpty then 0 else 1) < 30)) = true := by rfl)
    (m3 : (apos.endLine == cpos.line) = true := by rfl) (m4 : starEach (e :: es) X.env = (false, eval e X.env) :: starEach es X.env := by rfl) (m5 : (backTo cpos (starEach es X.env)).any (·.1) = false := by rfl) :
    PE X (.Call (.Attribute o "add" apos) (e :: es) [] cpos) (tAddT X.K X.prog X.w to t) := by
  refine ⟨fun pins s σ H Q I h => wpAny_Call_method_late m1 m2 m3 rfl (thn (ho.run pins s σ H _ I h) fun v s1 ⟨x, H1, I1, r1, ty, q1⟩ => ?_)⟩
  obtain ⟨a, L, rfl, hka, ts⟩ := ty
  obtain ⟨es', ep, tb, R⟩ := setT_full I1 hka ts
  cases r1
  refine ⟨"set", "set.add", F.plainAttrs_set, F.slot_set_add, F.type_set_add, SetTR.isSet R, fun b eb => ?_, ?_⟩
  · cases eb
    obtain ⟨oo, hoo, ex, _⟩ := R.ob
    exact ⟨oo, hoo, ex.2.1⟩
  have hA := ha.run cpos pins s1 σ H1 _ I1 q1
  rw [m4] at hA ⊢
  refine Calls.callWith_builtin (by show (false || (backTo cpos (starEach es X.env)).any (·.1)) = false; rw [m5]; rfl) (Calls.evalArgs_plain ?_)
  exact thn hA fun us s2 ⟨vs, H2, I2, r2, q2⟩ => mt_addT room pins s2 σ H2 (.ref a) vs (.ref a) us Q I2 rfl r2 q2
end
end G0
namespace G0
open PySem PySem.Spec PyProof.Rows L2
/-! ### set(xs) of a list of ints, with its order; sorted of it: sorted_set of the library -/
abbrev bare (w : World) : Obj := { cls := .type "set", dict := none, data := .set #[] 0 (.fresh 0 0 (!w.params.followText "set-order")) }
section
variable {P : Program} {w : World} {A : Around} {E : Value → Shared → Prop} {s : Shared}
set_option maxRecDepth 100000 in
set_option maxHeartbeats 3200000 in
theorem set_of_ints {l : Addr} {items : Array Value} (ns : List Int) {Q : Value → Shared → Prop} (calm : A.handled = none) (il : s.heap.IsList l items) (are : IntsAre items.toList ns) (few : ns.length + 1 < scanBound)
    (h : ∀ (h' : Heap) (tk c : Nat), SetR w h' s.heap.objs.size (fun j => decide (j ∈ ns)) c → c ≤ ns.length → (∀ b o, s.heap.get? b = some o → h'.get? b = some o) → Q (.ref s.heap.objs.size) { s with heap := h', toks := tk }) :
    wpAny (model P w) A (call (.type "set") [.ref l]) Q E s := by
  have sz : items.size = ns.length := by
    rw [← IntsAre.length are, Array.length_toList]
  obtain ⟨c, tl, mro⟩ := F.called_set.mro
  have m1 := F.called_set.made
  have m2 := F.called_set.sub
  refine wpAny_call (codeAny_of_tree ?_)
  show wpAny _ _ (callAny (.type "set") _) _ _ _
  refine wpAny_pure ⟨Code.quiet_builtin _ (by decide +kernel), codeAny_builtin F.entry_type_call ?_⟩
  rw [Around.under_plain (weight_type_call_type "set" [.ref l] []) rfl]
  have m3 := F.called_set.notType
  have m4 := F.called_set.canCreate
  have m5 := F.typeCall_set_1 (.ref l)
  repeat any_goals first | assumption | wp_step
  refine codeAny_mono (code_set_led1 (.ref l) (E := E) (Q₁ := fun obj s1 => obj = .ref s.heap.objs.size ∧ s1 = { s with heap := s.heap.push (bare w) }) ⟨rfl, rfl⟩) fun r s1 told => ?_
  match r, told with
  | .error e, told => exact told
  | .ok .next, told => exact told.elim
  | .ok .brk, told => exact told.elim
  | .ok .cont, told => exact told.elim
  | .ok (.ret obj), told =>
    obtain ⟨rfl, rfl⟩ := told
    have at1 : (s.heap.push (bare w)).get? s.heap.objs.size = some (bare w) := Heap.get?_push_size _ rfl
    have ty1 : Shared.TypeIs { s with heap := s.heap.push (bare w) } (.ref s.heap.objs.size) "set" := ⟨_, at1, rfl⟩
    have i1 := F.called_set.init.lookup
    have i2 := F.called_set.init.bind (.ref s.heap.objs.size)
    repeat any_goals first | assumption | wp_step
    refine codeAny_mono (codeAny_call_builtin (R := wants (fun r s2 => r = .none ∧ ∃ h' tk c, s2 = { s with heap := h', toks := tk } ∧ SetR w h' s.heap.objs.size (fun j => decide (j ∈ ns)) c ∧ c ≤ ns.length ∧
      (∀ b o, s.heap.get? b = some o → h'.get? b = some o)) E) F.called_set.init.plain F.entry_set_init (check_set_init_1 ty1 ?_)) fun r2 s2 told2 => ?_
    · obtain ⟨⟨k1, k2, k3, k4⟩, ol, oc, nl, od⟩ := il
      simp only at oc od
      subst oc
      subst od
      have ol' : (s.heap.push (bare w)).get? l = some { cls := .type "list", dict := k2, data := .seq items nl, slots := k4 } := Heap.get?_push_of_some _ ol
      have b1 := F.sub_list_set
      have b2 := F.sub_list_frozenset
      have b3 : (Value.type "list" == Value.type "dict") = false := by decide
      have il1 : (s.heap.push (bare w)).IsList l items := ⟨_, ol', rfl, nl, rfl⟩
      unfold Builtin.«set.__init__» noKeywords Builtin.Frozenset.updateFrom
      generalize gen : pyIter = walker
      wp_walk
      subst gen
      refine wpAny_pyIter_list il1 (wpAny_bind (wpAny_runValue ?_))
      have ll : l < s.heap.objs.size := Heap.lt_size ol
      have z1 : (s.heap.push (bare w)).objs.size = s.heap.objs.size + 1 := Heap.size_push ..
      have d1 : l ≠ (s.heap.push (bare w)).objs.size := by rw [z1]; exact Nat.ne_of_lt (Nat.lt_succ_of_lt ll)
      have d2 : s.heap.objs.size ∉ [(s.heap.push (bare w)).objs.size, l] := by
        simp only [List.mem_cons, List.not_mem_nil, or_false, not_or]
        rw [z1]
        exact ⟨Nat.ne_of_lt (Nat.lt_succ_self _), Nat.ne_of_gt ll⟩
      have vals : ∀ (i : Nat) (v : Value), items[i]? = some v → ∃ k t, ns[i]? = some k ∧ v = .int k t := fun i v hv => by
        have li : i < ns.length := by
          rw [← sz]
          exact (Array.getElem?_eq_some_iff.mp hv).1
        obtain ⟨t, e⟩ := PyProof.Rows.IntsAre.int_at are i v (by rw [Array.getElem?_toList]; exact hv)
        refine ⟨ns[i], t, List.getElem?_eq_getElem li, ?_⟩
        rw [e, List.getD_eq_getElem?_getD, List.getElem?_eq_getElem li]
        rfl
      refine set_update_ints ((Walks.list (by simp [calm]) _ l d1 items).toS) s.heap.objs.size d2 ns sz few vals (items.size - 0) 0 _ (by omega) (Nat.zero_le _)
        ⟨⟨_, Heap.get?_push_size _ rfl, rfl, rfl⟩, (il1.push _)⟩ ⟨0, Nat.le_refl 0, setR_new_at (Heap.get?_push_of_some _ at1)⟩ fun s' c' moved le new => ?_
      obtain ⟨h', g', d', tk', o'⟩ := s'
      have y1 : g' = s.gens := moved.gens
      have y2 : d' = s.drawn := moved.drawn
      have y3 : o' = s.os := moved.os
      subst y1 y2 y3
      show wpAny _ _ _ _ _ _
      refine wpAny_pure ?_
      show wpAny _ _ (ret Value.none) _ _ _
      rw [sz] at le
      refine wpAny_pure ⟨rfl, h', tk', c', rfl, new, le, fun b o e => moved.heap b o ?_ (Heap.get?_push_of_some _ (Heap.get?_push_of_some _ e))⟩
      have lb := Heap.lt_size e
      simp only [List.mem_cons, List.not_mem_nil, or_false, not_or]
      rw [z1]
      exact ⟨Nat.ne_of_lt lb, Nat.ne_of_lt (Nat.lt_succ_of_lt lb)⟩
    · match r2, told2 with
      | .error e, told2 => exact told2
      | .ok .next, told2 => exact told2.elim
      | .ok .brk, told2 => exact told2.elim
      | .ok .cont, told2 => exact told2.elim
      | .ok (.ret r), told2 =>
        obtain ⟨rfl, h', tk, c, rfl, new, le, old⟩ := told2
        repeat any_goals first | assumption | wp_step
        exact h _ _ _ new le old
end
section
variable {X : Cx}
def rSetOfI (K : PySem.W.Frag) (w : World) : List V → Hp → VK → Prop := fun xs H Q => ∃ (l : Addr) (ns : List Int), xs = [V.ref l] ∧ SqL K H l (ns.map V.int) ∧ ns.length < 64 ∧ ∀ a c, H a = none → c ≤ ns.length → Q (.ref a) (upd H a (SetO w a (fun j => decide (j ∈ ns)) c))
theorem cr_setOfI (calm : X.calm = true) : CallR X (.type "set") (rSetOfI X.K X.w) := by
  rintro pins s σ H xs us Q I r ⟨l, ns, rfl, hl, few, q⟩
  rw [Vals.ref1 r]
  obtain ⟨its, rv, pl, _⟩ := I.list hl
  refine set_of_ints (P := X.prog) (w := X.w) ns (I.ok.hd calm) pl.isList (by simpa using rv.ints) (by unfold scanBound; omega) fun h' tk c new le old => ?_
  exact ⟨.ref s.heap.objs.size, upd H s.heap.objs.size (SetO X.w s.heap.objs.size (fun j => decide (j ∈ ns)) c), I.laid (t' := tk) old (Nat.le_refl _) (setO_new new), rfl, q _ c (I.hok.fresh (Nat.le_refl _)) le⟩
end
end G0
namespace G0
open PySem PySem.Spec PyProof.Rows L2
abbrev bareS (w : World) : Obj := { cls := .type "set", dict := none, data := .set #[] 0 (.fresh 0 0 (!w.params.followText "set-order")) }
end G0
namespace G0
open PySem PySem.Spec PyProof.Rows L2
/-! ### set(xs) of a tuple of ints, tuple of it sorted -/
section
variable {P : Program} {w : World} {A : Around} {E : Value → Shared → Prop} {s : Shared}
set_option maxRecDepth 100000 in
set_option maxHeartbeats 3200000 in
theorem set_of_intsT {l : Addr} {items : Array Value} (ns : List Int) {Q : Value → Shared → Prop} (calm : A.handled = none) (il : s.heap.IsTuple l items) (are : IntsAre items.toList ns) (few : ns.length + 1 < scanBound)
    (h : ∀ (h' : Heap) (tk c : Nat), SetR w h' s.heap.objs.size (fun j => decide (j ∈ ns)) c → c ≤ ns.length → (∀ b o, s.heap.get? b = some o → h'.get? b = some o) → Q (.ref s.heap.objs.size) { s with heap := h', toks := tk }) :
    wpAny (model P w) A (call (.type "set") [.ref l]) Q E s := by
  have sz : items.size = ns.length := by
    rw [← IntsAre.length are, Array.length_toList]
  obtain ⟨c, tl, mro⟩ := F.called_set.mro
  have m1 := F.called_set.made
  have m2 := F.called_set.sub
  refine wpAny_call (codeAny_of_tree ?_)
  show wpAny _ _ (callAny (.type "set") _) _ _ _
  refine wpAny_pure ⟨Code.quiet_builtin _ (by decide +kernel), codeAny_builtin F.entry_type_call ?_⟩
  rw [Around.under_plain (weight_type_call_type "set" [.ref l] []) rfl]
  have m3 := F.called_set.notType
  have m4 := F.called_set.canCreate
  have m5 := F.typeCall_set_1 (.ref l)
  repeat any_goals first | assumption | wp_step
  refine codeAny_mono (code_set_led1 (.ref l) (E := E) (Q₁ := fun obj s1 => obj = .ref s.heap.objs.size ∧ s1 = { s with heap := s.heap.push (bareS w) }) ⟨rfl, rfl⟩) fun r s1 told => ?_
  match r, told with
  | .error e, told => exact told
  | .ok .next, told => exact told.elim
  | .ok .brk, told => exact told.elim
  | .ok .cont, told => exact told.elim
  | .ok (.ret obj), told =>
    obtain ⟨rfl, rfl⟩ := told
    have at1 : (s.heap.push (bareS w)).get? s.heap.objs.size = some (bareS w) := Heap.get?_push_size _ rfl
    have ty1 : Shared.TypeIs { s with heap := s.heap.push (bareS w) } (.ref s.heap.objs.size) "set" := ⟨_, at1, rfl⟩
    have i1 := F.called_set.init.lookup
    have i2 := F.called_set.init.bind (.ref s.heap.objs.size)
    repeat any_goals first | assumption | wp_step
    refine codeAny_mono (codeAny_call_builtin (R := wants (fun r s2 => r = .none ∧ ∃ h' tk c, s2 = { s with heap := h', toks := tk } ∧ SetR w h' s.heap.objs.size (fun j => decide (j ∈ ns)) c ∧ c ≤ ns.length ∧
      (∀ b o, s.heap.get? b = some o → h'.get? b = some o)) E) F.called_set.init.plain F.entry_set_init (check_set_init_1 ty1 ?_)) fun r2 s2 told2 => ?_
    · obtain ⟨⟨k1, k2, k3, k4⟩, ol, oc, nl, od⟩ := il
      simp only at oc od
      subst oc
      subst od
      have ol' : (s.heap.push (bareS w)).get? l = some { cls := .type "tuple", dict := k2, data := .seq items nl, slots := k4 } := Heap.get?_push_of_some _ ol
      have b1 := F.sub_tuple_set
      have b2 := F.sub_tuple_frozenset
      have b3 : (Value.type "tuple" == Value.type "dict") = false := by decide
      have il1 : (s.heap.push (bareS w)).IsTuple l items := ⟨_, ol', rfl, nl, rfl⟩
      unfold Builtin.«set.__init__» noKeywords Builtin.Frozenset.updateFrom
      generalize gen : pyIter = walker
      wp_walk
      subst gen
      refine wpAny_pyIter_tuple il1 (wpAny_bind (wpAny_runValue ?_))
      have ll : l < s.heap.objs.size := Heap.lt_size ol
      have z1 : (s.heap.push (bareS w)).objs.size = s.heap.objs.size + 1 := Heap.size_push ..
      have d1 : l ≠ (s.heap.push (bareS w)).objs.size := by rw [z1]; exact Nat.ne_of_lt (Nat.lt_succ_of_lt ll)
      have d2 : s.heap.objs.size ∉ [(s.heap.push (bareS w)).objs.size, l] := by
        simp only [List.mem_cons, List.not_mem_nil, or_false, not_or]
        rw [z1]
        exact ⟨Nat.ne_of_lt (Nat.lt_succ_self _), Nat.ne_of_gt ll⟩
      have vals : ∀ (i : Nat) (v : Value), items[i]? = some v → ∃ k t, ns[i]? = some k ∧ v = .int k t := fun i v hv => by
        have li : i < ns.length := by
          rw [← sz]
          exact (Array.getElem?_eq_some_iff.mp hv).1
        obtain ⟨t, e⟩ := PyProof.Rows.IntsAre.int_at are i v (by rw [Array.getElem?_toList]; exact hv)
        refine ⟨ns[i], t, List.getElem?_eq_getElem li, ?_⟩
        rw [e, List.getD_eq_getElem?_getD, List.getElem?_eq_getElem li]
        rfl
      refine set_update_ints ((Walks.tuple (by simp [calm]) _ l d1 items).toS) s.heap.objs.size d2 ns sz few vals (items.size - 0) 0 _ (by omega) (Nat.zero_le _)
        ⟨⟨_, Heap.get?_push_size _ rfl, rfl, rfl⟩, (il1.at fun o e => Heap.get?_push_of_some _ e)⟩ ⟨0, Nat.le_refl 0, setR_new_at (Heap.get?_push_of_some _ at1)⟩ fun s' c' moved le new => ?_
      obtain ⟨h', g', d', tk', o'⟩ := s'
      have y1 : g' = s.gens := moved.gens
      have y2 : d' = s.drawn := moved.drawn
      have y3 : o' = s.os := moved.os
      subst y1 y2 y3
      show wpAny _ _ _ _ _ _
      refine wpAny_pure ?_
      show wpAny _ _ (ret Value.none) _ _ _
      rw [sz] at le
      refine wpAny_pure ⟨rfl, h', tk', c', rfl, new, le, fun b o e => moved.heap b o ?_ (Heap.get?_push_of_some _ (Heap.get?_push_of_some _ e))⟩
      have lb := Heap.lt_size e
      simp only [List.mem_cons, List.not_mem_nil, or_false, not_or]
      rw [z1]
      exact ⟨Nat.ne_of_lt lb, Nat.ne_of_lt (Nat.lt_succ_of_lt lb)⟩
    · match r2, told2 with
      | .error e, told2 => exact told2
      | .ok .next, told2 => exact told2.elim
      | .ok .brk, told2 => exact told2.elim
      | .ok .cont, told2 => exact told2.elim
      | .ok (.ret r), told2 =>
        obtain ⟨rfl, h', tk, c, rfl, new, le, old⟩ := told2
        repeat any_goals first | assumption | wp_step
        exact h _ _ _ new le old
end
section
variable {X : Cx}
def rSetOfTI (K : PySem.W.Frag) (w : World) : List V → Hp → VK → Prop := fun xs H Q => ∃ (l : Addr) (ns : List Int), xs = [V.ref l] ∧ SqT K H l (ns.map V.int) ∧ ns.length < 60 ∧ ∀ a c, H a = none → c ≤ ns.length → Q (.ref a) (upd H a (SetO w a (fun j => decide (j ∈ ns)) c))
theorem cr_setOfTI (calm : X.calm = true) : CallR X (.type "set") (rSetOfTI X.K X.w) := by
  rintro pins s σ H xs us Q I r ⟨l, ns, rfl, hl, few, q⟩
  rw [Vals.ref1 r]
  obtain ⟨its, rv, pl, _⟩ := I.tuple hl
  refine set_of_intsT (P := X.prog) (w := X.w) ns (I.ok.hd calm) pl (by simpa using rv.ints) (by unfold scanBound; omega) fun h' tk c new le old => ?_
  exact ⟨.ref s.heap.objs.size, upd H s.heap.objs.size (SetO X.w s.heap.objs.size (fun j => decide (j ∈ ns)) c), I.laid (t' := tk) old (Nat.le_refl _) (setO_new new), rfl, q _ c (I.hok.fresh (Nat.le_refl _)) le⟩
end
end G0
namespace G0
open PySem PySem.Spec PyProof.Rows L2
/-! ### data -/
mutual
def noL : PyData → Bool
  | .none | .bool _ | .int _ | .str _ => true
  | .list _ | .dict _ => false
  | .tuple xs => noLs xs
def noLs : List PyData → Bool
  | [] => true
  | x :: xs => noL x && noLs xs
end
section
variable {K : PySem.W.Frag} {H H' : Hp} {p : Addr}
theorem sqt_chg (hp : ∃ xs, H p = some (.lst xs)) (c : Chg p H H') {a : Addr} {xs : List V} (h : SqT K H a xs) : SqT K H' a xs := by
  obtain ⟨ys, hp⟩ := hp
  rcases h with (h | ⟨o, h⟩) | h
  · exact .inl (.inl (c _ _ (ne_of h hp (by intro z; cases z)) h))
  · exact .inl (.inr ⟨o, c _ _ (ne_of h hp (by intro z; cases z)) h⟩)
  · exact .inr h
theorem sqt_same (c : Same H H') {a : Addr} {xs : List V} (h : SqT K H a xs) : SqT K H' a xs := by
  rcases h with (h | ⟨o, h⟩) | h
  · exact .inl (.inl (c _ _ h))
  · exact .inl (.inr ⟨o, c _ _ h⟩)
  · exact .inr h
mutual
theorem dp_chg (hp : ∃ xs, H p = some (.lst xs)) (c : Chg p H H') : ∀ (d : PyData) (v : V), noL d = true → Dp K H v d → Dp K H' v d
  | .none, _, _, h => by cases h; exact .non
  | .bool _, _, _, h => by cases h; exact .bl _
  | .int _, _, _, h => by cases h; exact .int _
  | .str _, _, _, h => by cases h; exact .str _
  | .list _, _, n, _ => by simp [noL] at n
  | .dict _, _, n, _ => by simp [noL] at n
  | .tuple ds, _, n, h => by
    cases h with
    | tup hs ha => exact .tup (sqt_chg hp c hs) (dps_chg hp c ds _ (by simpa [noL] using n) ha)
theorem dps_chg (hp : ∃ xs, H p = some (.lst xs)) (c : Chg p H H') : ∀ (ds : List PyData) (vs : List V), noLs ds = true → DpAll K H vs ds → DpAll K H' vs ds
  | [], _, _, h => by cases h; exact .nil
  | d :: ds, _, n, h => by
    simp only [noLs, Bool.and_eq_true] at n
    cases h with
    | cons h1 h2 => exact .cons (dp_chg hp c d _ n.1 h1) (dps_chg hp c ds _ n.2 h2)
end
mutual
theorem dp_same (c : Same H H') : ∀ (d : PyData) (v : V), Dp K H v d → Dp K H' v d
  | .none, _, h => by cases h; exact .non
  | .bool _, _, h => by cases h; exact .bl _
  | .int _, _, h => by cases h; exact .int _
  | .str _, _, h => by cases h; exact .str _
  | .list ds, _, h => by
    cases h with
    | lst hs ha => exact .lst (c.seq hs) (dps_same c ds _ ha)
  | .dict _, _, h => by cases h
  | .tuple ds, _, h => by
    cases h with
    | tup hs ha => exact .tup (sqt_same c hs) (dps_same c ds _ ha)
theorem dps_same (c : Same H H') : ∀ (ds : List PyData) (vs : List V), DpAll K H vs ds → DpAll K H' vs ds
  | [], _, h => by cases h; exact .nil
  | d :: ds, _, h => by
    cases h with
    | cons h1 h2 => exact .cons (dp_same c d _ h1) (dps_same c ds _ h2)
end
theorem dps_app {vs ws : List V} {ds es : List PyData} : DpAll K H vs ds → DpAll K H ws es → DpAll K H (vs ++ ws) (ds ++ es) := by
  intro h g
  match vs, ds, h with
  | [], [], _ => exact g
  | _ :: _, _ :: _, .cons h1 h2 => exact .cons h1 (dps_app h2 g)
theorem dps_len {vs : List V} {ds : List PyData} : DpAll K H vs ds → vs.length = ds.length := by
  intro h
  match vs, ds, h with
  | [], [], _ => rfl
  | _ :: _, _ :: _, .cons _ h2 => exact congrArg (· + 1) (dps_len h2)
end
theorem noLs_of : ∀ {ds : List PyData}, (∀ d ∈ ds, noL d = true) → noLs ds = true
  | [], _ => rfl
  | d :: ds, h => by
    simp only [noLs, Bool.and_eq_true]
    exact ⟨h d (List.mem_cons_self ..), noLs_of fun x hx => h x (List.mem_cons_of_mem _ hx)⟩
/-! ### things and letters -/
inductive Thing : Nat → PyData → Prop
  | num {n : Nat} {i : Int} : 0 ≤ i → i < 10 ^ 60 → Thing n (.int i)
  | tup {n : Nat} {ds : List PyData} : ds.length ≤ 2 → (∀ d ∈ ds, Thing n d) → Thing (n + 1) (.tuple ds)
theorem Thing.noL {n : Nat} {d : PyData} (h : Thing n d) : noL d = true := by
  induction h with
  | num _ _ => rfl
  | tup _ _ ih =>
    simp only [G0.noL]
    exact noLs_of ih
theorem Thing.mono {n m : Nat} {d : PyData} (h : Thing n d) (le : n ≤ m) : Thing m d := by
  induction h generalizing m with
  | num a b => exact .num a b
  | tup l _ ih =>
    cases m with
    | zero => omega
    | succ m => exact .tup l fun d hd => ih d hd (by omega)
def WordOk (z : Str) : Prop := 1 ≤ z.length ∧ z.length ≤ 8 ∧ (∀ c ∈ z.cps.toList, 97 ≤ c ∧ c ≤ 122) ∧ z ≠ "gone"
def LetterD (d : PyData) : Prop := ∃ (z : Str) (ds : List PyData), d = .tuple (.str z :: ds) ∧ WordOk z ∧ ds.length ≤ 5 ∧ ∀ x ∈ ds, Thing 3 x
theorem LetterD.noL {d : PyData} (h : LetterD d) : noL d = true := by
  obtain ⟨z, ds, rfl, _, _, hd⟩ := h
  simp only [G0.noL, noLs, Bool.true_and]
  exact noLs_of fun x hx => (hd x hx).noL
theorem Chg.mut {p D : Addr} {H0 H1 : Hp} {o : HO} (a : Chg p H0 H1) (n : H0 D = none) : Chg p H0 (upd H1 D o) := fun b u m e => by
  rw [upd_ne (ne_of_none e n)]; exact a b u m e
theorem PotAt.ne {n : Nat} {H H' : Hp} {p D : Addr} {o : HO} (h : PotAt n H p) (d : p ≠ D) (e : H' = upd H D o) : PotAt n H' p := by
  obtain ⟨xs, q, r⟩ := h
  exact ⟨xs, by rw [e, upd_ne d]; exact q, r⟩
theorem PotAt.new {n : Nat} {H : Hp} {p D : Addr} {o : HO} (h : PotAt n H p) (d : H D = none) : PotAt n (upd H D o) p := h.keep (same_upd d)
theorem PotAt.neD {n : Nat} {H : Hp} {p D : Addr} (h : PotAt n H p) (d : H D = none) : p ≠ D := by
  obtain ⟨xs, q, r⟩ := h
  exact ne_of_none q d
theorem PotAt.lst {n : Nat} {H : Hp} {p : Addr} (h : PotAt n H p) : ∃ xs, H p = some (.lst xs) := by
  obtain ⟨xs, q, r⟩ := h
  exact ⟨xs, q⟩
theorem PotAt.neT {n : Nat} {H : Hp} {p t : Addr} {xs : List V} (h : PotAt n H p) (d : H t = some (.tup xs)) : t ≠ p := by
  obtain ⟨ys, q, r⟩ := h
  exact ne_of d q (by intro z; cases z)
theorem Cal.imp {P : Program} {w : World} {K : PySem.W.Frag} {mg : Str → Option Value} {base : Heap} {x : Str} {k : Nat} {ps : List Str} {sp sp' : Sp}
    (C : Cal P w K mg base x k ps sp) (h : ∀ vs H Q E, sp' vs H Q E → sp vs H Q E) : Cal P w K mg base x k ps sp' := by
  obtain ⟨f, fd, F, r⟩ := C
  exact ⟨f, fd, ⟨fun a b c d q => F.len _ _ _ _ (h _ _ _ _ q), fun A o s H args us vs Q E hr he hb hv hs => F.run A o s H args us vs Q E hr he hb hv (h _ _ _ _ hs)⟩, r⟩
theorem cal_no {P : Program} {w : World} {K : PySem.W.Frag} {mg : Str → Option Value} {base : Heap} {x : Str} {st : Stmt} {ps : List Str} (F : Fn K mg x st)
    (bd : ∀ (kV doc pm : Value) (an : Option Addr) (cdv ct : Value) (us : List Value), us.length = ps.length →
      bindArgs (PySem.W.fnOf x x (defArgs st) (defBody st) (defScope st) .none kV doc pm an cdv ct) ⟨us, []⟩ = pure (ps.zip us)) :
    Cal P w K mg base x 0 ps (fun _ _ _ _ => False) := by
  obtain ⟨f, fd, F, m⟩ := F
  obtain ⟨oc, od, kV, doc, pm, an, cdv, ct, osl, e, lk, c⟩ := id F.ex
  exact ⟨f, fd, ⟨fun _ _ _ _ h => h.elim, fun _ _ _ _ _ _ _ _ _ _ _ _ _ h => h.elim⟩, F.binds bd, m, F.kp, oc, od, osl, lk⟩
/-! ### texts of small letters -/
theorem az : ∀ j : Fin 26, (("abcdefghijklmnopqrstuvwxyz" : Str).cps.toList)[j.val]? = some (97 + j.val) := by decide +kernel
theorem az_at {d : Int} (h0 : 0 ≤ d) (h1 : d < 26) : atI ("abcdefghijklmnopqrstuvwxyz" : Str).cps.toList d = some (97 + d.toNat) := by
  have e : d = ((d.toNat : Nat) : Int) := by omega
  have q := az ⟨d.toNat, by omega⟩
  rw [e]
  exact atI_nat q
def sg (c : Nat) : Str := ⟨#[c]⟩
open TL in
theorem joinL_sg : ∀ cs : List Nat, joinL [] (cs.map fun c => [c]) = cs
  | [] => rfl
  | [c] => rfl
  | c :: d :: r => by
    show [c] ++ ([] ++ joinL [] ((d :: r).map fun c => [c])) = c :: d :: r
    rw [joinL_sg (d :: r)]
    rfl
open TL in
theorem tl_of (z : Str) : tl z = z.cps.toList := rfl
open TL in
theorem join_sg (cs : List Nat) : (Txt.join "" (cs.map sg)).cps.toList = cs := by
  rw [join_eq, ← tl_of, tl_join]
  have e : (cs.map sg).map tl = cs.map fun c => [c] := by rw [List.map_map]; rfl
  rw [e]
  exact joinL_sg cs
open TL in
theorem join_sg_len (cs : List Nat) : (Txt.join "" (cs.map sg)).length = cs.length := by
  have e := congrArg List.length (join_sg cs)
  rw [← e]
  show _ = (Txt.join "" (cs.map sg)).cps.toList.length
  simp [Str.length]
theorem sum_sg : ∀ cs : List Nat, ((cs.map sg).map (·.length)).sum = cs.length
  | [] => rfl
  | c :: r => by
    show 1 + ((r.map sg).map (·.length)).sum = r.length + 1
    rw [sum_sg r]; omega

end G0
namespace G0
open PySem PySem.Spec PyProof.Rows L2
theorem iteF' {c : Bool} {A B : Prop} (e : c = false) (h : B) : if c = true then A else B := by rw [e]; exact iteF h
theorem iteT' {c : Bool} {A B : Prop} (e : c = true) (h : A) : if c = true then A else B := by rw [e]; exact iteT h
/-! ### several lists may change -/
def ChgS (S : List Addr) (H H' : Hp) : Prop := ∀ b o, b ∉ S → H b = some o → H' b = some o
section
variable {S : List Addr} {p q : Addr} {H H' H0 H1 H2 : Hp} {o : HO}
theorem ChgS.refl : ChgS S H H := fun _ _ _ e => e
theorem ChgS.trans (a : ChgS S H H1) (b : ChgS S H1 H2) : ChgS S H H2 := fun c o n e => b c o n (a c o n e)
theorem Chg.s (h : Chg p H H') (m : p ∈ S) : ChgS S H H' := fun b o n e => h b o (fun z => n (z ▸ m)) e
theorem Same.s (h : Same H H') : ChgS S H H' := fun b o _ e => h b o e
theorem ChgS.mono {T : List Addr} (h : ChgS S H H') (m : ∀ b ∈ S, b ∈ T) : ChgS T H H' := fun b o n e => h b o (fun z => n (m b z)) e
theorem ChgS.new (a : ChgS S H H1) (n : H1 q = none) : ChgS S H (upd H1 q o) := fun b u m e => by
  rw [upd_ne (ne_of_none (a b u m e) n)]; exact a b u m e
theorem ChgS.mut (a : ChgS S H H1) (n : H q = none) : ChgS S H (upd H1 q o) := fun b u m e => by
  rw [upd_ne (ne_of_none e n)]; exact a b u m e
theorem ChgS.put (a : ChgS S H H1) (m : q ∈ S) : ChgS S H (upd H1 q o) := fun b u n e => by
  have nb : b ≠ q := fun z => n (by rw [z]; exact m)
  rw [upd_ne nb]; exact a b u n e
/-- what is new behind was new ahead -/
theorem ChgS.back (a : ChgS S H H1) (n : H1 q = none) (m : q ∉ S) : H q = none := by
  cases e : H q with
  | none => rfl
  | some u => rw [a q u m e] at n; cases n
theorem Chg.back (a : Chg p H H1) (n : H1 q = none) (m : q ≠ p) : H q = none := by
  cases e : H q with
  | none => rfl
  | some u => rw [a q u m e] at n; cases n
theorem PotAt.keepS {n : Nat} (h : PotAt n H p) (s : ChgS S H H') (m : p ∉ S) : PotAt n H' p := by
  obtain ⟨xs, e, h⟩ := h
  exact ⟨xs, s _ _ m e, h⟩
end
/-! ### lists of ints -/
section
variable {K : PySem.W.Frag} {H : Hp}
theorem dps_ints : ∀ ns : List Int, DpAll K H (ns.map V.int) (ns.map PyData.int)
  | [] => .nil
  | n :: r => .cons (.int n) (dps_ints r)
theorem dp_ints {a : Addr} {ns : List Int} (h : H a = some (.lst (ns.map V.int))) : Dp K H (.ref a) (.list (ns.map PyData.int)) := .lst (SqL.of h) (dps_ints ns)
theorem lay_ints : ∀ ns : List Int, PyData.canLayAll0 (ns.map PyData.int) = true
  | [] => by simp [PyData.canLayAll0]
  | n :: r => by simp [PyData.canLayAll0, PyData.canLay0, lay_ints r]
theorem deep_ints : ∀ ns : List Int, PyData.depthAll (ns.map PyData.int) = 0
  | [] => by simp [PyData.depthAll]
  | n :: r => by simp [PyData.depthAll, PyData.depth, deep_ints r]
theorem shaped_ints (ns : List Int) : SeqAt.shaped (.list (ns.map PyData.int)) = true := by
  show ((PyData.list (ns.map PyData.int)).canLay0 && decide ((PyData.list (ns.map PyData.int)).depth ≤ 64)) = true
  simp [PyData.canLay0, PyData.depth, lay_ints, deep_ints]
theorem flat_ints : ∀ ns : List Int, (ns.map V.int).all flatV = true
  | [] => rfl
  | n :: r => by simp [flatV, flat_ints r]
theorem inV_ints (v : Int) : ∀ ns : List Int, inV (.int v) (ns.map V.int) = decide (v ∈ ns)
  | [] => by simp [inV]
  | n :: r => by
    have ih := inV_ints v r
    unfold inV at ih ⊢
    rw [List.map_cons, List.any_cons, ih]
    show ((n == v) || decide (v ∈ r)) = decide (v ∈ n :: r)
    by_cases e : n = v
    · subst e; simp
    · have e' : ¬ v = n := fun z => e z.symm
      simp [e, e']
theorem at_ints {ns : List Int} {d : Int} (h0 : 0 ≤ d) (h1 : d < ns.length) : ∃ v, v ∈ ns ∧ atI (ns.map V.int) d = some (.int v) := by
  have hk : d.toNat < ns.length := by omega
  have ek : d = ((d.toNat : Nat) : Int) := by omega
  refine ⟨ns[d.toNat], List.getElem_mem hk, ?_⟩
  have q : atI (ns.map V.int) ((d.toNat : Nat) : Int) = some (.int ns[d.toNat]) := atI_nat (by rw [List.getElem?_map, List.getElem?_eq_getElem hk] <;> rfl)
  rw [← ek] at q
  exact q
end
/-! ### how long a repr is -/
mutual
def cost : PyData → Nat
  | .none => 4
  | .bool _ => 5
  | .int _ => 1921
  | .str x => 10 * x.length + 2
  | .list xs => 2 + costs xs
  | .tuple xs => 4 + costs xs
  | .dict _ => 0
def costs : List PyData → Nat
  | [] => 0
  | x :: xs => cost x + 2 + costs xs
end
theorem from_le : ∀ (ts : List Str) (k : Nat) (acc : Str), (textFrom k acc ts).length ≤ acc.length + (ts.map fun t => t.length + 2).sum
  | [], k, acc => by show acc.length ≤ _; simp
  | t :: r, k, acc => by
    have ih := from_le r (k + 1) (acc ++ (if k > 0 then ", " else "" : String) ++ t)
    show (textFrom (k + 1) _ r).length ≤ _
    rw [List.map_cons, List.sum_cons]
    rw [Str.length_append, Str.length_append] at ih
    have sep : (Str.ofString (if k > 0 then ", " else "")).length ≤ 2 := by split <;> decide
    omega
theorem join_le : ∀ ts : List Str, (Str.join ", " ts).length ≤ (ts.map fun t => t.length + 2).sum
  | [] => by decide
  | [x] => by show x.length ≤ _; simp
  | x :: y :: r => by
    have ih := join_le (y :: r)
    show (x ++ (", " : Str) ++ Str.join ", " (y :: r)).length ≤ _
    rw [Str.length_append, Str.length_append, List.map_cons, List.sum_cons]
    have : (", " : Str).length = 2 := by decide
    omega
theorem small_cps {x : Str} (h : PyData.strOk x = true) : ∀ c ∈ x.cps.toList, c < 16 ^ 8 := fun c hc => by
  unfold PyData.strOk at h
  rw [Array.all_eq_true_iff_forall_mem] at h
  have := of_decide_eq_true (h c (Array.mem_toList_iff.mp hc))
  omega
mutual
theorem shown_le : ∀ d : PyData, d.showable = true → d.canLay0 = true → d.shown.length ≤ cost d
  | .none, _, _ => by show (("None" : Str)).length ≤ 4; decide
  | .bool b, _, _ => by cases b <;> (simp only [PyData.shown, cost]; decide)
  | .int i, h, _ => by
    simp only [PyData.shown, cost]
    exact int_text_len_1921 (by simpa [PyData.showable] using h)
  | .str x, _, h => by
    simp only [PyData.shown, cost]
    exact StrLaws.reprText_len x (small_cps (by simpa [PyData.canLay0] using h))
  | .list xs, h, l => by
    have ih := shown_les xs (by simpa [PyData.showable] using h) (by simpa [PyData.canLay0] using l)
    simp only [PyData.shown, cost]
    show (textFrom 0 "[" (PyData.shownAll xs) ++ ("]" : Str)).length ≤ _
    have := from_le (PyData.shownAll xs) 0 "["
    have a : ("[" : Str).length = 1 := by decide
    have b : ("]" : Str).length = 1 := by decide
    rw [Str.length_append]
    omega
  | .tuple xs, h, l => by
    have ih := shown_les xs (by simpa [PyData.showable] using h) (by simpa [PyData.canLay0] using l)
    simp only [PyData.shown, cost]
    show (("(" : Str) ++ Str.join ", " (PyData.shownAll xs) ++ (Str.ofString (if (PyData.shownAll xs).length == 1 then ",)" else ")"))).length ≤ _
    have := join_le (PyData.shownAll xs)
    have a : ("(" : Str).length = 1 := by decide
    have b : (Str.ofString (if (PyData.shownAll xs).length == 1 then ",)" else ")")).length ≤ 2 := by split <;> decide
    rw [Str.length_append, Str.length_append]
    omega
  | .dict _, _, h => by simp [PyData.canLay0] at h
theorem shown_les : ∀ ds : List PyData, PyData.showableAll ds = true → PyData.canLayAll0 ds = true → ((PyData.shownAll ds).map fun t => t.length + 2).sum ≤ costs ds
  | [], _, _ => Nat.le_refl _
  | d :: ds, h, l => by
    simp only [PyData.showableAll, Bool.and_eq_true] at h
    simp only [PyData.canLayAll0, Bool.and_eq_true] at l
    have h1 := shown_le d h.1 l.1
    have h2 := shown_les ds h.2 l.2
    simp only [PyData.shownAll, costs, List.map_cons, List.sum_cons]
    omega
end

end G0
namespace G0
open PySem PySem.Spec PyProof.Rows L2
def top (i : Nat) : Stmt := PySem.Challenge.pw_soleseat_k18_cuts.main.body.getD i (.Pass ⟨0, 0, 0, 0⟩)
abbrev s_Cut__init : Stmt := inClass (top 1) 0
abbrev s_Cut_rows : Stmt := inClass (top 1) 1
abbrev s_Cut_has : Stmt := inClass (top 1) 2
abbrev s_Cut_joined : Stmt := inClass (top 1) 3
abbrev s_Cut_shared : Stmt := inClass (top 1) 4
abbrev s_Cut__len : Stmt := inClass (top 1) 5
abbrev s_Cut__eq : Stmt := inClass (top 1) 6
abbrev s_Cut__str : Stmt := inClass (top 1) 7
abbrev s_Cut_stretches : Stmt := inClass (top 1) 8
abbrev s_stretch_text : Stmt := top 2
abbrev s_law_feed : Stmt := top 4
abbrev s_law_more : Stmt := top 5
abbrev s_law_step : Stmt := top 6
abbrev s_law_draw : Stmt := top 7
abbrev s_law_same : Stmt := top 8
abbrev s_law_row_list : Stmt := top 9
abbrev s_law_written : Stmt := top 10
abbrev s_law_is_cut : Stmt := top 11
abbrev s_law_right : Stmt := top 12
abbrev s_law : Stmt := top 13
section
structure Bl (mg : Str → Option Value) : Prop where
  len : mg "len" = none
  range : mg "range" = none
  tuple : mg "tuple" = none
  list : mg "list" = none
  abs : mg "abs" = none
  int : mg "int" = none
  isinstance : mg "isinstance" = none
  bool : mg "bool" = none
  str : mg "str" = none
  all : mg "all" = none
theorem u64 {k : Nat} {A : Around} (hr : Room k A) : A.units + 64 < cLine := by have := hr.un; omega
theorem u66 {k : Nat} {A : Around} (hr : Room k A) : A.units + 66 < cLine := by have := hr.un; omega
/-! ### the feed -/
def FeedL (n : Nat) (c : Addr) (xs : List V) : Prop := ∃ f0 f1 f2 f3 : Int, xs = [.int f0, .int f1, .int f2, .int f3, .ref c] ∧ 0 ≤ f0 ∧ 0 ≤ f1 ∧ 0 ≤ f2 ∧ f2 ≤ n ∧ 0 ≤ f3 ∧ f3 < 2 ^ 62
def FeedAt (n : Nat) (c : Addr) (H : Hp) (p : Addr) : Prop := ∃ xs, H p = some (.lst xs) ∧ FeedL n c xs
variable {P : Program} {w : World} {K : PySem.W.Frag} {mg : Str → Option Value} {base : Heap} {n m : Nat} {c p D : Addr} {H H' : Hp} {o : HO}
theorem FeedAt.mono (h : FeedAt n c H p) (le : n ≤ m) : FeedAt m c H p := by
  obtain ⟨xs, e, f0, f1, f2, f3, r, h0, h1, h2, h3, h4, h5⟩ := h
  exact ⟨xs, e, f0, f1, f2, f3, r, h0, h1, h2, by omega, h4, h5⟩
theorem FeedAt.keep (h : FeedAt n c H p) (s : Same H H') : FeedAt n c H' p := by
  obtain ⟨xs, e, h⟩ := h
  exact ⟨xs, s _ _ e, h⟩
theorem FeedAt.new (h : FeedAt n c H p) (d : H D = none) : FeedAt n c (upd H D o) p := h.keep (same_upd d)
theorem FeedAt.neD (h : FeedAt n c H p) (d : H D = none) : p ≠ D := by
  obtain ⟨xs, e, h⟩ := h
  exact ne_of_none e d
theorem FeedAt.ne (h : FeedAt n c H p) (d : p ≠ D) (e : H' = upd H D o) : FeedAt n c H' p := by
  obtain ⟨xs, q, r⟩ := h
  exact ⟨xs, by rw [e, upd_ne d]; exact q, r⟩
theorem FeedAt.lst (h : FeedAt n c H p) : ∃ xs, H p = some (.lst xs) := by
  obtain ⟨xs, e, h⟩ := h
  exact ⟨xs, e⟩
/-! ### _law_draw -/
def spD : Sp := fun vs H Q _ => ∃ (p c : Addr) (m : Int) (n : Nat), vs = [.ref p, .int m] ∧ 0 < m ∧ m.natAbs < 2 ^ 250 ∧ FeedAt n c H p ∧ n < 1000000000 ∧
  ∀ (d : Int) (H' : Hp), 0 ≤ d → d < m → Chg p H H' → FeedAt (n + 1) c H' p → Q (.int d) H'
theorem sc_law_draw : FnScope ["feed", "many", "digit", "at", "first", "second"] ["feed", "many"] (defScope s_law_draw) :=
  ⟨rfl, rfl, rfl, by decide +kernel, rfl, by decide +kernel, by decide +kernel⟩
theorem ok_draw (F : Fn K mg "_law_draw" s_law_draw) : Cal P w K mg base "_law_draw" 1 ["feed", "many"] spD := by
  refine cal_of F sc_law_draw
    (fun _ _ _ _ _ _ us hl => match us, hl with | [_, _], _ => rfl) ?_ ?_
  · rintro vs H Q E ⟨p, c, m, n, rfl, _⟩
    rfl
  rintro f cdv A outer s H vs Q E free hr ⟨p, c, m, n, rfl, m0, mb, ⟨_, hp, f0, f1, f2, f3, rfl, h0, h1, h2, h3, h4, h5⟩, hn, q⟩
  have hL := SqL.of (K := K) hp
  refine ⟨_, (pss_cons (ps_asg (pe_op op_add (pe_ix ix_list (pv 0) pe_int (fun _ _ => rfl)) pe_int) (pg_sub (pv 0) pe_int set_list))
    (pss_cons (ps_if (pt_cmpR op_gt (pe_ix ix_list (pv 0) pe_int (fun _ _ => rfl)) pe_int (nomark _))
    (pss_cons (ps_set (i := 2) sc_law_draw.nd rfl (Or.inl rfl) (pe_op op_mod (pe_ix ix_list (pv 0) pe_int (fun _ _ => rfl)) (pv 1)))
    (pss_cons (ps_asg (pe_op op_fdivW (pe_ix ix_list (pv 0) pe_int (fun _ _ => rfl)) (pv 1)) (pg_sub (pv 0) pe_int set_list))
    (pss_one (ps_ret (pv 2)))))
    pss_nil)
    (pss_cons (ps_set (i := 3) sc_law_draw.nd rfl (Or.inl rfl) (pe_ix ix_list (pv 0) pe_int (fun _ _ => rfl)))
    (pss_cons (ps_set (i := 4) sc_law_draw.nd rfl (Or.inl rfl) (pe_op op_mod (pe_op op_add (pe_op op_add (pe_op op_mul (pe_ix ix_list (pv 0) pe_int (fun _ _ => rfl)) pe_int) (pe_op op_mul (pe_op op_mul (pv 3) (pv 3)) pe_int)) (pv 3)) pe_int))
    (pss_cons (ps_set (i := 5) sc_law_draw.nd rfl (Or.inl rfl) (pe_op op_mod (pe_op op_add (pe_op op_add (pe_op op_mul (pv 4) (pv 4)) (pe_ix ix_list (pv 0) pe_int (fun _ _ => rfl))) (pe_op op_mul pe_int (pv 3))) pe_int))
    (pss_one (ps_ret (pe_op op_mod (pe_op op_fdivW (pe_op op_mod (pe_op op_mul (pv 5) pe_int) pe_int) pe_int) (pv 1))))))))), ?_⟩
  refine ⟨_, rfl, p, _, _, _, rfl, rfl, hL, rfl, _, _, rfl, rfl, ?_⟩
  refine ⟨_, rfl, p, _, _, _, rfl, rfl, hp, rfl, ?_⟩
  have hp' : upd H p (.lst [.int f0, .int f1, .int (f2 + 1), .int f3, .ref c]) p = some (.lst [.int f0, .int f1, .int (f2 + 1), .int f3, .ref c]) := upd_same
  have hL' := SqL.of (K := K) hp'
  refine ⟨_, rfl, p, _, _, _, rfl, rfl, hL', rfl, _, _, rfl, rfl, _, rfl, ?_⟩
  refine ite2 (fun c1 => ?_) (fun c1 => ?_)
  · refine ⟨_, rfl, p, _, _, _, rfl, rfl, hL', rfl, _, rfl, _, _, rfl, rfl, m0, ?_⟩
    refine ⟨_, rfl, p, _, _, _, rfl, rfl, hL', rfl, _, rfl, _, _, rfl, rfl, wide_div m0 mb (by decide) (by decide), ?_⟩
    refine ⟨_, rfl, p, _, _, _, rfl, rfl, hp', rfl, ?_⟩
    refine ⟨_, rfl, ?_⟩
    refine q _ _ (Int.emod_nonneg _ (by omega)) (Int.emod_lt_of_pos _ m0) ?_ ⟨_, upd_same, _, f1, f2 + 1, f3, rfl, Int.ediv_nonneg h0 (by omega), h1, by omega, by omega, h4, h5⟩
    exact fun b o nb e => by rw [upd_ne nb, upd_ne nb]; exact e
  · refine ⟨_, rfl, p, _, _, _, rfl, rfl, hL', rfl, ?_⟩
    refine ⟨_, rfl, p, _, _, _, rfl, rfl, hL', rfl, _, _, rfl, rfl, .inr ⟨by decide, by decide⟩, _, rfl, _, rfl, _, _, rfl, rfl, .inl ⟨by omega, by omega⟩, _, _, rfl, rfl, .inr ⟨by decide, by decide⟩, _, _, rfl, rfl,
      _, rfl, _, _, rfl, rfl, _, _, rfl, rfl, (by show (0 : Int) < 2147483647; decide), ?_⟩
    generalize hf : (f3 * 1000003 + (f2 + 1) * (f2 + 1) * 7919 + (f2 + 1)) % 2147483647 = first
    have o0 : 0 ≤ first := by rw [← hf]; exact Int.emod_nonneg _ (by decide)
    have o1 : first < 2147483647 := by rw [← hf]; exact Int.emod_lt_of_pos _ (by decide)
    refine ⟨_, rfl, _, rfl, _, _, rfl, rfl, .inl ⟨by omega, by omega⟩, _, rfl, p, _, _, _, rfl, rfl, hL', rfl, _, _, rfl, rfl, _, rfl, _, _, rfl, rfl, .inl ⟨by decide, by decide⟩, _, _, rfl, rfl, _, _, rfl, rfl, (by show (0 : Int) < 998244353; decide), ?_⟩
    generalize hs : (first * first + f3 + 31 * (f2 + 1)) % 998244353 = second
    refine ⟨_, rfl, _, _, rfl, rfl, .inr ⟨by decide, by decide⟩, _, _, rfl, rfl, (by show (0 : Int) < 1000000007; decide), _, _, rfl, rfl, ⟨by decide, by decide⟩, _, rfl, _, _, rfl, rfl, m0, ?_⟩
    exact q _ _ (Int.emod_nonneg _ (by omega)) (Int.emod_lt_of_pos _ m0) Chg.self ⟨_, upd_same, f0, f1, f2 + 1, f3, rfl, h0, h1, by omega, by omega, h4, h5⟩
end

end G0
namespace G0
open PySem PySem.Spec PyProof.Rows L2
section
variable {P : Program} {w : World} {K : PySem.W.Frag} {mg : Str → Option Value} {base : Heap}
/-! ### _law_feed, _law_more, _law_step -/
def CellsAt (ns : List Int) (H : Hp) (c : Addr) : Prop := H c = some (.lst (ns.map V.int)) ∧ ns.length ≤ 63
def spFeed (K : PySem.W.Frag) : Sp := fun vs H Q _ => ∃ (a : Addr) (ns : List Int), vs = [.ref a] ∧ SqL K H a (ns.map V.int) ∧ ns.length ≤ 63 ∧
  ∀ (p c : Addr) (H' : Hp), Same H H' → H p = none → FeedAt 0 c H' p → CellsAt ns H' c → p ≠ c → Q (.ref p) H'
theorem sc_law_feed : FnScope ["cells"] ["cells"] (defScope s_law_feed) :=
  ⟨rfl, rfl, rfl, by decide +kernel, rfl, by decide +kernel, by decide +kernel⟩
theorem ok_feed (F : Fn K mg "_law_feed" s_law_feed) (T : Bl mg) : Cal P w K mg base "_law_feed" 1 ["cells"] (spFeed K) := by
  refine cal_of F sc_law_feed
    (fun _ _ _ _ _ _ us hl => match us, hl with | [_], _ => rfl) ?_ ?_
  · rintro vs H Q E ⟨a, ns, rfl, _⟩
    rfl
  rintro f cdv A outer s H vs Q E free hr ⟨a, ns, rfl, hS, hl, q⟩
  refine ⟨_, (pss_one (ps_ret (pe_lst (pa_cons pe_int (pa_cons pe_int (pa_cons pe_int (pa_cons pe_int (pa_cons (pe_callTy call_list_of (by rfl) T.list (by decide +kernel) (pa_cons (pv 0) pa_nil)) pa_nil)))))))), ?_⟩
  refine ⟨_, rfl, a, _, rfl, .inl hS, fun c hc => ⟨by show 5 ≤ sizeLine; decide, fun p hp => ?_⟩⟩
  have e : upd H c (.lst (ns.map V.int)) c = some (.lst (ns.map V.int)) := upd_same
  exact q p c _ ((same_upd hc).trans (same_upd hp)) ((same_upd hc).free hp) ⟨_, upd_same, 0, 0, 0, 0, rfl, by decide, by decide, by decide, by decide, by decide, by decide⟩ ⟨same_upd hp _ _ e, hl⟩ (ne_of_none e hp).symm
def spMore : Sp := fun vs H Q _ => ∃ (p c : Addr) (n : Nat) (ns : List Int), vs = [.ref p] ∧ FeedAt n c H p ∧ CellsAt ns H c ∧ ∀ b : Bool, Q (.bl b) H
theorem sc_law_more : FnScope ["feed"] ["feed"] (defScope s_law_more) :=
  ⟨rfl, rfl, rfl, by decide +kernel, rfl, by decide +kernel, by decide +kernel⟩
theorem ok_more (F : Fn K mg "_law_more" s_law_more) (T : Bl mg) : Cal P w K mg base "_law_more" 1 ["feed"] spMore := by
  refine cal_of F sc_law_more
    (fun _ _ _ _ _ _ us hl => match us, hl with | [_], _ => rfl) ?_ ?_
  · rintro vs H Q E ⟨p, c, n, ns, rfl, _⟩
    rfl
  rintro f cdv A outer s H vs Q E free hr ⟨p, c, n, ns, rfl, ⟨_, hp, f0, f1, f2, f3, rfl, h0, h1, h2, h3, h4, h5⟩, ⟨hc, hl⟩, q⟩
  have hL := SqL.of (K := K) hp
  refine ⟨_, (pss_one (ps_ret (pe_or (pe_cmpR op_gt (pe_ix ix_list (pv 0) pe_int (fun _ _ => rfl)) pe_int (nomark _)) (pe_one (pe_cmpR op_lt (pe_ix ix_list (pv 0) pe_int (fun _ _ => rfl)) (pe_callB call_len_seq (by rfl) T.len (by decide +kernel) (pa_cons (pe_ix ix_list (pv 0) pe_int (fun _ _ => rfl)) pa_nil)) (nomark _)))))), ?_⟩
  refine ⟨_, rfl, p, _, _, _, rfl, rfl, hL, rfl, _, _, rfl, rfl, _, rfl, ?_⟩
  refine ite2 (fun _ => q _) (fun _ => ?_)
  exact ⟨_, rfl, p, _, _, _, rfl, rfl, hL, rfl, _, rfl, p, _, _, _, rfl, rfl, hL, rfl, c, _, rfl, .inl (SqL.of hc), _, _, rfl, rfl, q _⟩
def spStep : Sp := fun vs H Q _ => ∃ (p c : Addr) (n : Nat) (ns : List Int), vs = [.ref p] ∧ FeedAt n c H p ∧ CellsAt ns H c ∧ ∀ H', Chg p H H' → FeedAt n c H' p → Q .non H'
theorem sc_law_step : FnScope ["feed", "cell"] ["feed"] (defScope s_law_step) :=
  ⟨rfl, rfl, rfl, by decide +kernel, rfl, by decide +kernel, by decide +kernel⟩
theorem ok_step (F : Fn K mg "_law_step" s_law_step) (T : Bl mg) : Cal P w K mg base "_law_step" 1 ["feed"] spStep := by
  refine cal_of F sc_law_step
    (fun _ _ _ _ _ _ us hl => match us, hl with | [_], _ => rfl) ?_ ?_
  · rintro vs H Q E ⟨p, c, n, ns, rfl, _⟩
    rfl
  rintro f cdv A outer s H vs Q E free hr ⟨p, c, n, ns, rfl, ⟨_, hp, f0, f1, f2, f3, rfl, h0, h1, h2, h3, h4, h5⟩, ⟨hc, hl⟩, q⟩
  have hL := SqL.of (K := K) hp
  have pc : c ≠ p := fun z => by
    subst z
    rw [hp] at hc
    injection hc with hc
    injection hc with hc
    have := congrArg (fun l : List V => l[4]?) hc
    simp only [List.getElem?_map] at this
    cases hn : ns[4]? with
    | none => rw [hn] at this; cases this
    | some i => rw [hn] at this; cases this
  refine ⟨_, (pss_one (ps_if (pt_cmpR op_eq (pe_ix ix_list (pv 0) pe_int (fun _ _ => rfl)) pe_int (nomark _))
    (pss_cons (ps_asg pe_int (pg_sub (pv 0) pe_int set_list))
    (pss_one (ps_if (pt_cmpR op_lt (pe_ix ix_list (pv 0) pe_int (fun _ _ => rfl)) (pe_callB call_len_seq (by rfl) T.len (by decide +kernel) (pa_cons (pe_ix ix_list (pv 0) pe_int (fun _ _ => rfl)) pa_nil)) (nomark _))
    (pss_cons (ps_set (i := 1) sc_law_step.nd rfl (Or.inl rfl) (pe_ix ix_list (pe_ix ix_list (pv 0) pe_int (fun _ _ => rfl)) (pe_ix ix_list (pv 0) pe_int (fun _ _ => rfl)) (fun _ _ => rfl)))
    (pss_cons (ps_asg (pe_op op_add (pe_ix ix_list (pv 0) pe_int (fun _ _ => rfl)) pe_int) (pg_sub (pv 0) pe_int set_list))
    (pss_one (ps_if (pt_cmpR op_ge (pe_callB call_abs (by rfl) T.abs (by decide +kernel) (pa_cons (pv 1) pa_nil)) (pe_op op_pow pe_int pe_int) (nomark _))
    (pss_one (ps_asg (pe_callB call_abs (by rfl) T.abs (by decide +kernel) (pa_cons (pv 1) pa_nil)) (pg_sub (pv 0) pe_int set_list)))
    (pss_one (ps_asg (pe_op op_add (pe_op op_mul pe_int (pe_callB call_abs (by rfl) T.abs (by decide +kernel) (pa_cons (pv 1) pa_nil))) (pe_callTy call_int1 (by rfl) T.int (by decide +kernel) (pa_cons (pe_cmpR op_lt (pv 1) pe_int (nomark _)) pa_nil))) (pg_sub (pv 0) pe_int set_list)))))))
    pss_nil)))
    pss_nil)), ?_⟩
  refine ⟨_, rfl, p, _, _, _, rfl, rfl, hL, rfl, rfl, _, rfl, ?_⟩
  refine ite2 (fun c0 => ?_) (fun _ => q H (Chg.refl _ _) ⟨_, hp, f0, f1, f2, f3, rfl, h0, h1, h2, h3, h4, h5⟩)
  have z0 : f0 = 0 := V.int.inj (of_decide_eq_true c0)
  subst z0
  refine ⟨_, rfl, p, _, _, _, rfl, rfl, hp, rfl, ?_⟩
  have hp1 : upd H p (.lst [.int 0, .int f1, .int f2, .int 0, .ref c]) p = some (.lst [.int 0, .int f1, .int f2, .int 0, .ref c]) := upd_same
  have c1 : Chg p H (upd H p (.lst [.int 0, .int f1, .int f2, .int 0, .ref c])) := Chg.self
  have hc1 := c1 _ _ pc hc
  have hL1 := SqL.of (K := K) hp1
  refine ⟨_, rfl, p, _, _, _, rfl, rfl, hL1, rfl, _, rfl, p, _, _, _, rfl, rfl, hL1, rfl, c, _, rfl, .inl (SqL.of hc1), _, _, rfl, rfl, _, rfl, ?_⟩
  refine ite2 (fun cl => ?_) (fun _ => q _ c1 ⟨_, hp1, 0, f1, f2, 0, rfl, by decide, h1, h2, h3, by decide, by decide⟩)
  have lt : f1 < ((ns.map V.int).length : Nat) := of_decide_eq_true cl
  have lt' : f1.toNat < ns.length := by simp at lt; omega
  have at1 : atI (ns.map V.int) f1 = some (.int ns[f1.toNat]) := by
    have := atI_nat (xs := ns.map V.int) (j := f1.toNat) (v := .int ns[f1.toNat]) (by rw [List.getElem?_map, List.getElem?_eq_getElem lt']; rfl)
    rwa [show ((f1.toNat : Nat) : Int) = f1 by omega] at this
  generalize ns[f1.toNat] = i at at1
  refine ⟨_, rfl, p, _, _, _, rfl, rfl, hL1, rfl, _, rfl, p, _, _, _, rfl, rfl, hL1, rfl, c, _, _, _, rfl, rfl, SqL.of hc1, at1, ?_⟩
  refine ⟨_, rfl, p, _, _, _, rfl, rfl, hL1, rfl, _, _, rfl, rfl, ?_⟩
  refine ⟨_, rfl, p, _, _, _, rfl, rfl, hp1, rfl, ?_⟩
  have hp2 : upd (upd H p (.lst [.int 0, .int f1, .int f2, .int 0, .ref c])) p (.lst [.int 0, .int (f1 + 1), .int f2, .int 0, .ref c]) p = some (.lst [.int 0, .int (f1 + 1), .int f2, .int 0, .ref c]) := upd_same
  have c2 : Chg p H (upd (upd H p (.lst [.int 0, .int f1, .int f2, .int 0, .ref c])) p (.lst [.int 0, .int (f1 + 1), .int f2, .int 0, .ref c])) := c1.trans Chg.self
  have hL2 := SqL.of (K := K) hp2
  have t18 : (10 : Int) ^ (Int.toNat 18) = 10 ^ 18 := rfl
  refine ⟨_, rfl, i, rfl, _, _, rfl, rfl, ⟨by decide, by decide, by decide⟩, _, _, rfl, rfl, _, rfl, ?_⟩
  refine ite2 (fun ca => ?_) (fun ca => ?_)
  · refine ⟨_, rfl, i, rfl, _, rfl, p, _, _, _, rfl, rfl, hp2, rfl, ?_⟩
    exact q _ (c2.trans Chg.self) ⟨_, upd_same, _, f1 + 1, f2, 0, rfl, by split <;> omega, by omega, h2, h3, by decide, by decide⟩
  · have ca' : (if i < 0 then -i else i) < 10 ^ 18 := by
      have := fun z => ca (decide_eq_true z)
      rw [t18] at this
      exact Int.not_le.mp this
    generalize hm : (if i < 0 then -i else i) = m at ca'
    have m0 : 0 ≤ m := by rw [← hm]; split <;> omega
    refine ⟨_, rfl, i, rfl, _, _, rfl, rfl, .inl ⟨by decide, by decide⟩, _, rfl, _, _, rfl, rfl, .inr ⟨_, rfl, _, _, rfl, rfl, ?_⟩⟩
    refine ⟨_, rfl, p, _, _, _, rfl, rfl, hp2, rfl, ?_⟩
    have b2 : ∀ k : Int, 0 ≤ k → k ≤ 1 → 0 ≤ 2 * (if i < 0 then -i else i) + k ∧ 2 * (if i < 0 then -i else i) + k < 2 ^ 62 := fun k k0 k1 => by rw [hm]; omega
    have kk : ∀ b : Bool, (0 : Int) ≤ (if b = true then 1 else 0) ∧ (if b = true then (1 : Int) else 0) ≤ 1 := fun b => by cases b <;> decide
    have b3 := b2 _ (kk (decide (i < 0))).1 (kk (decide (i < 0))).2
    exact q _ (c2.trans Chg.self) ⟨_, upd_same, 0, f1 + 1, f2, _, rfl, by decide, by omega, h2, h3, b3.1, b3.2⟩
end

end G0
namespace G0
open PySem PySem.Spec PyProof.Rows L2
/-! ### comprehensions whose items stand already: what stays, and what is told of it -/
section
variable {K : PySem.W.Frag} {α : Type} {a : Addr} {ks : List α} {g : TG} {tt : TT} {te : TE} {vs : List Nat} {σ : L2.St} {H1 : Hp} {D : Addr} {Qd : Hp → Prop}
theorem vals_atA {f : α → V} {ks : List α} {i : Nat} {x : V} (h : (ks.map f)[i]? = some x) : ∃ k, ks[i]? = some k ∧ x = f k := by
  rw [List.getElem?_map] at h
  cases e : ks[i]? with
  | none => rw [e] at h; cases h
  | some k => rw [e] at h; exact ⟨k, rfl, (Option.some.inj h).symm⟩
theorem filt_nextA (p : α → Bool) {ns : List α} {i : Nat} {k : α} (h : ns[i]? = some k) : (ns.take (i + 1)).filter p = (ns.take i).filter p ++ (if p k = true then [k] else []) := by
  rw [List.take_succ, h, List.filter_append]
  cases z : p k <;> simp [z]
theorem keepL {H H' : Hp} {xs : List V} (c : Same H H') (h : SqL K H a xs) : SqL K H' a xs := c.seq h
theorem keepT {H H' : Hp} {xs : List V} (c : Same H H') (h : SqT K H a xs) : SqT K H' a xs := sqt_same c h
theorem lc_mapL (f : α → V) (p : α → Bool) (r : α → V) (few : ks.length ≤ 10000) (hD : H1 D = none) (hs : SqL K H1 a (ks.map f))
    (step : ∀ (i : Nat) (k : α) (G : Hp) (Y : VK) (B : Hp → Prop), ks[i]? = some k → Same H1 G → (p k = true → ∀ G', Same G G' → Y (r k) G') → (p k = false → ∀ G', Same G G' → B G') → g (f k) (wipe σ vs) G fun σ2 H2 => wipe σ2 vs = wipe σ vs ∧ tt σ2 H2 fun b H3 => if b = true then te σ2 H3 Y else B H3)
    (fin : ∀ G, Same H1 G → G D = some (.lst ((ks.filter p).map r)) → Qd G) :
    ∃ W : Nat → Nat → Hp → Prop, (∃ m, W 0 m (upd H1 D (.lst []))) ∧ ∀ i m G, W i m G →
      ((Itl K a).stop i G ∧ Qd G) ∨ ((Itl K a).go i G ∧ ∃ Nx : Hp → Prop, (∀ G', Nx G' → ∃ m', m' < m ∧ W (i + 1) m' G') ∧ ∀ x G', (Itl K a).yld i G x G' → g x (wipe σ vs) G' fun σ2 H2 => wipe σ2 vs = wipe σ vs ∧ tt σ2 H2 fun b H3 =>
        if b = true then te σ2 H3 fun y H4 => ∃ acc, H4 D = some (.lst acc) ∧ acc.length < sizeLine ∧ Nx (upd H4 D (.lst (acc ++ [y]))) else Nx H3) := by
  refine lc_list (K := K) (a := a) (xs := ks.map f) (fun i G => Same H1 G ∧ G D = some (.lst (((ks.take i).filter p).map r))) ⟨same_upd hD, upd_same⟩ (fun i G _ h => keepL h.1 hs) ?_ ?_
  · rintro i x G hx ⟨sG, kD⟩
    obtain ⟨k, hk, rfl⟩ := vals_atA hx
    have li := (List.getElem?_eq_some_iff.mp hk).1
    refine step i k G _ _ hk sG (fun c G' s' => ?_) (fun c G' s' => ?_)
    · refine ⟨_, s' _ _ kD, ?_, fun b o e => ?_, ?_⟩
      · rw [List.length_map]
        exact Nat.lt_of_lt_of_le (show _ < 20000 from Nat.lt_of_le_of_lt (List.length_filter_le ..) (by rw [List.length_take]; omega)) (by decide)
      · rw [upd_ne (ne_of_none e hD)]
        exact s' _ _ (sG _ _ e)
      · rw [filt_nextA p hk, if_pos c, List.map_append]
        exact upd_same
    · refine ⟨sG.trans s', ?_⟩
      rw [filt_nextA p hk, if_neg (by simp [c]), List.append_nil]
      exact s' _ _ kD
  · rintro G ⟨sG, kD⟩
    rw [List.length_map, List.take_length] at kD
    exact fin G sG kD
theorem lc_mapT (f : α → V) (p : α → Bool) (r : α → V) (few : ks.length ≤ 10000) (hD : H1 D = none) (hs : SqT K H1 a (ks.map f))
    (step : ∀ (i : Nat) (k : α) (G : Hp) (Y : VK) (B : Hp → Prop), ks[i]? = some k → Same H1 G → (p k = true → ∀ G', Same G G' → Y (r k) G') → (p k = false → ∀ G', Same G G' → B G') → g (f k) (wipe σ vs) G fun σ2 H2 => wipe σ2 vs = wipe σ vs ∧ tt σ2 H2 fun b H3 => if b = true then te σ2 H3 Y else B H3)
    (fin : ∀ G, Same H1 G → G D = some (.lst ((ks.filter p).map r)) → Qd G) :
    ∃ W : Nat → Nat → Hp → Prop, (∃ m, W 0 m (upd H1 D (.lst []))) ∧ ∀ i m G, W i m G →
      ((Itt K a).stop i G ∧ Qd G) ∨ ((Itt K a).go i G ∧ ∃ Nx : Hp → Prop, (∀ G', Nx G' → ∃ m', m' < m ∧ W (i + 1) m' G') ∧ ∀ x G', (Itt K a).yld i G x G' → g x (wipe σ vs) G' fun σ2 H2 => wipe σ2 vs = wipe σ vs ∧ tt σ2 H2 fun b H3 =>
        if b = true then te σ2 H3 fun y H4 => ∃ acc, H4 D = some (.lst acc) ∧ acc.length < sizeLine ∧ Nx (upd H4 D (.lst (acc ++ [y]))) else Nx H3) := by
  refine lc_tup (K := K) (a := a) (xs := ks.map f) (fun i G => Same H1 G ∧ G D = some (.lst (((ks.take i).filter p).map r))) ⟨same_upd hD, upd_same⟩ (fun i G _ h => keepT h.1 hs) ?_ ?_
  · rintro i x G hx ⟨sG, kD⟩
    obtain ⟨k, hk, rfl⟩ := vals_atA hx
    have li := (List.getElem?_eq_some_iff.mp hk).1
    refine step i k G _ _ hk sG (fun c G' s' => ?_) (fun c G' s' => ?_)
    · refine ⟨_, s' _ _ kD, ?_, fun b o e => ?_, ?_⟩
      · rw [List.length_map]
        exact Nat.lt_of_lt_of_le (show _ < 20000 from Nat.lt_of_le_of_lt (List.length_filter_le ..) (by rw [List.length_take]; omega)) (by decide)
      · rw [upd_ne (ne_of_none e hD)]
        exact s' _ _ (sG _ _ e)
      · rw [filt_nextA p hk, if_pos c, List.map_append]
        exact upd_same
    · refine ⟨sG.trans s', ?_⟩
      rw [filt_nextA p hk, if_neg (by simp [c]), List.append_nil]
      exact s' _ _ kD
  · rintro G ⟨sG, kD⟩
    rw [List.length_map, List.take_length] at kD
    exact fin G sG kD
theorem filter_tt {α : Type} (xs : List α) : xs.filter (fun _ => true) = xs := by simp
end

end G0
namespace G0
open PySem PySem.Spec PyProof.Rows L2
/-! ### comprehensions over ints, with a test: what stays, what is made of it -/
theorem ints_at' {ns : List Int} {i : Nat} {x : V} (h : (ns.map V.int)[i]? = some x) : ∃ k, ns[i]? = some k ∧ x = V.int k := by
  rw [List.getElem?_map] at h
  cases e : ns[i]? with
  | none => rw [e] at h; cases h
  | some k => rw [e] at h; exact ⟨k, rfl, (Option.some.inj h).symm⟩
theorem filt_next {α : Type} {ns : List α} {i : Nat} {k : α} (p : α → Bool) (h : ns[i]? = some k) : (ns.take (i + 1)).filter p = (ns.take i).filter p ++ (if p k = true then [k] else []) := by
  rw [List.take_succ, h, List.filter_append]
  cases z : p k <;> simp [z]
theorem tst {b c : Bool} {te : TE} {σ : L2.St} {G : Hp} {Y : VK} {B : Hp → Prop} {v : V} (e : b = c) (go : Y v G → te σ G Y) (h : if c = true then Y v G else B G) : if b = true then te σ G Y else B G := by
  rw [e]
  cases c with
  | true => exact iteT (go ((if_pos rfl).mp h))
  | false => exact iteF (by simpa using h)
section
variable {K : PySem.W.Frag} {a : Addr} {ns : List Int} {g : TG} {tt : TT} {te : TE} {vs : List Nat} {σ : L2.St} {H1 : Hp} {D : Addr} {Qd : Hp → Prop}
theorem lc_filtI (p : Int → Bool) (few : ns.length ≤ 10000) (hD : H1 D = none) (hs : SqL K H1 a (ns.map V.int))
    (step : ∀ (i : Nat) (x : Int) (G : Hp) (Y : VK) (B : Hp → Prop), ns[i]? = some x → Same H1 G → (if p x = true then Y (.int x) G else B G) → g (.int x) (wipe σ vs) G fun σ2 H2 => wipe σ2 vs = wipe σ vs ∧ tt σ2 H2 fun b H3 => if b = true then te σ2 H3 Y else B H3)
    (fin : ∀ G, Same H1 G → G D = some (.lst ((ns.filter p).map V.int)) → Qd G) :
    ∃ W : Nat → Nat → Hp → Prop, (∃ m, W 0 m (upd H1 D (.lst []))) ∧ ∀ i m G, W i m G →
      ((Itl K a).stop i G ∧ Qd G) ∨ ((Itl K a).go i G ∧ ∃ Nx : Hp → Prop, (∀ G', Nx G' → ∃ m', m' < m ∧ W (i + 1) m' G') ∧ ∀ x G', (Itl K a).yld i G x G' → g x (wipe σ vs) G' fun σ2 H2 => wipe σ2 vs = wipe σ vs ∧ tt σ2 H2 fun b H3 =>
        if b = true then te σ2 H3 fun y H4 => ∃ acc, H4 D = some (.lst acc) ∧ acc.length < sizeLine ∧ Nx (upd H4 D (.lst (acc ++ [y]))) else Nx H3) := by
  refine lc_list (K := K) (a := a) (xs := ns.map V.int) (fun i G => Same H1 G ∧ G D = some (.lst (((ns.take i).filter p).map V.int))) ⟨same_upd hD, upd_same⟩ (fun i G _ h => h.1.seq hs) ?_ ?_
  · rintro i x G hx ⟨sG, kD⟩
    obtain ⟨k, hk, rfl⟩ := ints_at' hx
    have li := (List.getElem?_eq_some_iff.mp hk).1
    refine step i k G _ _ hk sG ?_
    rw [filt_next p hk]
    by_cases c : p k = true
    · rw [if_pos c, if_pos c]
      refine ⟨_, kD, ?_, fun b o e => ?_, ?_⟩
      · rw [List.length_map]
        exact Nat.lt_of_lt_of_le (show _ < 20000 from Nat.lt_of_le_of_lt (List.length_filter_le ..) (by rw [List.length_take]; omega)) (by decide)
      · rw [upd_ne (ne_of_none e hD)]
        exact sG _ _ e
      · rw [List.map_append]
        exact upd_same
    · rw [if_neg c, if_neg c, List.append_nil]
      exact ⟨sG, kD⟩
  · rintro G ⟨sG, kD⟩
    rw [List.length_map, List.take_length] at kD
    exact fin G sG kD
theorem lc_dataI (p : Int → Bool) (f : Int → PyData) (few : ns.length ≤ 10000) (nl : ∀ x ∈ ns, noL (f x) = true) (hD : H1 D = none) (hs : SqL K H1 a (ns.map V.int))
    (step : ∀ (i : Nat) (x : Int) (G : Hp) (Y : VK) (B : Hp → Prop), ns[i]? = some x → Same H1 G → (p x = true → ∀ v G', Same G G' → Dp K G' v (f x) → Y v G') → (p x = false → B G) → g (.int x) (wipe σ vs) G fun σ2 H2 => wipe σ2 vs = wipe σ vs ∧ tt σ2 H2 fun b H3 => if b = true then te σ2 H3 Y else B H3)
    (fin : ∀ G zs, Same H1 G → G D = some (.lst zs) → DpAll K G zs ((ns.filter p).map f) → Qd G) :
    ∃ W : Nat → Nat → Hp → Prop, (∃ m, W 0 m (upd H1 D (.lst []))) ∧ ∀ i m G, W i m G →
      ((Itl K a).stop i G ∧ Qd G) ∨ ((Itl K a).go i G ∧ ∃ Nx : Hp → Prop, (∀ G', Nx G' → ∃ m', m' < m ∧ W (i + 1) m' G') ∧ ∀ x G', (Itl K a).yld i G x G' → g x (wipe σ vs) G' fun σ2 H2 => wipe σ2 vs = wipe σ vs ∧ tt σ2 H2 fun b H3 =>
        if b = true then te σ2 H3 fun y H4 => ∃ acc, H4 D = some (.lst acc) ∧ acc.length < sizeLine ∧ Nx (upd H4 D (.lst (acc ++ [y]))) else Nx H3) := by
  refine lc_list (K := K) (a := a) (xs := ns.map V.int) (fun i G => Same H1 G ∧ ∃ zs, zs.length ≤ i ∧ G D = some (.lst zs) ∧ DpAll K G zs (((ns.take i).filter p).map f)) ⟨same_upd hD, [], Nat.le_refl _, upd_same, .nil⟩ (fun i G _ h => h.1.seq hs) ?_ ?_
  · rintro i x G hx ⟨sG, zs, lz, kD, dz⟩
    obtain ⟨k, hk, rfl⟩ := ints_at' hx
    have li := (List.getElem?_eq_some_iff.mp hk).1
    have nls : noLs (((ns.take i).filter p).map f) = true := noLs_of fun d hd => by
      obtain ⟨y, hy, rfl⟩ := List.mem_map.mp hd
      exact nl y (List.mem_of_mem_take (List.mem_filter.mp hy).1)
    refine step i k G _ _ hk sG (fun c v G' s' dv => ?_) (fun c => ?_)
    · have kD' := s' _ _ kD
      refine ⟨_, kD', Nat.lt_of_lt_of_le (show zs.length < 20000 by omega) (by decide), fun b o e => ?_, zs ++ [v], by rw [List.length_append, List.length_singleton]; omega, upd_same, ?_⟩
      · rw [upd_ne (ne_of_none e hD)]
        exact s' _ _ (sG _ _ e)
      · rw [filt_next p hk, if_pos c, List.map_append]
        exact dps_app (dps_chg ⟨_, kD'⟩ Chg.self _ _ nls (dps_same s' _ _ dz)) (.cons (dp_chg ⟨_, kD'⟩ Chg.self _ _ (nl k (List.mem_of_getElem? hk)) dv) .nil)
    · refine ⟨sG, zs, by omega, kD, ?_⟩
      rw [filt_next p hk, if_neg (by simp [c]), List.append_nil]
      exact dz
  · rintro G ⟨sG, zs, lz, kD, dz⟩
    rw [List.length_map, List.take_length] at dz
    exact fin G zs sG kD dz
end

end G0
namespace G0
open PySem PySem.Spec PyProof.Rows L2
/-! ### comprehensions within comprehensions: the written part named -/
section
variable {X : Cx} {tg : Expr} (K : PySem.W.Frag)
theorem pi_listK {l : Expr} {tl : TE} (hl : PE X l tl) (hK : X.K = K := by rfl) : PI X tg l (iList K tl) := by
  subst hK; exact pi_list hl
theorem pi_tupK {l : Expr} {tl : TE} (hl : PE X l tl) (hK : X.K = K := by rfl) : PI X tg l (iTup K tl) := by
  subst hK; exact pi_tup hl
theorem pi_enumK {e : Expr} {ta : TA} {p pos tpos : Pos} {elts : List Expr} {kk : Nat} (hg : Gl X "enumerate") (hm : X.mg "enumerate" = none) (ha : PA X [e] ta) (hs : starEach [e] X.env = [(false, eval e X.env)] := by rfl) (hK : X.K = K := by rfl) :
    PI X (.Tuple elts kk tpos) (.Call (.Name "enumerate" p) [e] [] pos) (iEnum K ta) := by
  subst hK; exact pi_enum hg hm ha hs
theorem sl_listK (hK : X.K = K := by rfl) : SlR X (rSlL K) := by
  subst hK; exact sl_list
theorem cr_anyK (hc : X.calm = true) (hK : X.K = K := by rfl) : CallR X (.builtin "any") (rAny K) := by
  subst hK; exact cr_any hc
theorem cr_allK (hc : X.calm = true) (hK : X.K = K := by rfl) : CallR X (.builtin "all") (rAll K) := by
  subst hK; exact cr_all hc
end
end G0
namespace G0
open PySem PySem.Spec PyProof.Rows L2
theorem n_CuF_ra_ha : (("_rows" : Str) = "_held") = False := eq_false (by decide +kernel)
theorem n_CuF_ha_ra : (("_held" : Str) = "_rows") = False := eq_false (by decide +kernel)
def CuF (ra : Addr) (ha : Addr) : List (Str × V) := [("_rows", .ref ra), ("_held", .ref ha)]
theorem CuF_ra (ra : Addr) (ha : Addr) : (CuF ra ha).lookup ("_rows" : Str) = some (.ref ra) := by unfold CuF; rw [List.lookup_cons_self]
theorem CuF_put_ra (ra : Addr) (ha : Addr) (ra' : Addr) : putF "_rows" (.ref ra') (CuF ra ha) = CuF ra' ha := by
  simp only [CuF, putF, if_false, if_true]
theorem CuF_ha (ra : Addr) (ha : Addr) : (CuF ra ha).lookup ("_held" : Str) = some (.ref ha) := by unfold CuF; rw [List.lookup_cons, beq_false_of_ne (fun z => by rw [n_CuF_ha_ra] at z; exact z)]; simp only []; rw [List.lookup_cons_self]
theorem CuF_put_ha (ra : Addr) (ha : Addr) (ha' : Addr) : putF "_held" (.ref ha') (CuF ra ha) = CuF ra ha' := by
  simp only [CuF, putF, n_CuF_ra_ha, if_false, if_true]
theorem CuF_no (ra : Addr) (ha : Addr) {x : Str} (h0 : x ≠ ("_rows" : Str)) (h1 : x ≠ ("_held" : Str)) : (CuF ra ha).lookup x = none := by
  unfold CuF
  rw [List.lookup_cons, beq_false_of_ne h0]; simp only []
  rw [List.lookup_cons, beq_false_of_ne h1]; rfl
theorem CuF_made (ra : Addr) (ha : Addr) : putF "_held" (.ref ha) (putF "_rows" (.ref ra) ([] ))= CuF ra ha := by
  simp only [putF, CuF, n_CuF_ra_ha, if_false, if_true]
end G0
namespace G0
open PySem PySem.Spec PyProof.Rows L2
set_option maxHeartbeats 4000000
set_option pp.deepTerms.threshold 6
section
variable {P : Program} {w : World} {K : PySem.W.Frag} {mg : Str → Option Value} {base : Heap} {C f : Addr} {fd : FuncData}
/-! ### a cut -/
structure CutT (K : PySem.W.Frag) (C : Addr) : Prop where
  cl : Cls K C
  rows : NoAttr K C "_rows"
  held : NoAttr K C "_held"
structure BlC18 (mg : Str → Option Value) : Prop where
  len : mg "len" = none
  list : mg "list" = none
  sorted : mg "sorted" = none
  set : mg "set" = none
  isinstance : mg "isinstance" = none
structure BlS (mg : Str → Option Value) : Prop where
  len : mg "len" = none
  list : mg "list" = none
  str : mg "str" = none
  zip : mg "zip" = none
def hldV (us : List Int) : List (L2.Key × V) := us.map fun x => (Sum.inl x, V.bl true)
theorem hld_in (us : List Int) (x : Int) : (valV (hldV us) (Sum.inl x)).isSome = decide (x ∈ us) := by
  rw [← valV_any]
  unfold hldV
  rw [List.any_map]
  induction us with
  | nil => rfl
  | cons u us ih =>
    rw [List.any_cons, ih]
    by_cases c : x = u
    · subst c; simp
    · have c2 : ¬ u = x := fun z => c z.symm
      simp [c, c2]
structure CutAt (H : Hp) (C p dx ra ha : Addr) (us : List Int) : Prop where
  hp : H p = some (.ins C dx (CuF ra ha))
  hr : H ra = some (.lst (us.map V.int))
  hh : H ha = some (.dK (hldV us))
  up : us.Pairwise (· < ·)
theorem CutAt.same {H H' : Hp} {p dx ra ha : Addr} {us : List Int} (A : CutAt H C p dx ra ha us) (s : Same H H') : CutAt H' C p dx ra ha us := ⟨s _ _ A.hp, s _ _ A.hr, s _ _ A.hh, A.up⟩
def spCRows (C : Addr) : Sp := fun vs H Q _ => ∃ (p dx ra ha : Addr) (us : List Int), vs = [.ref p] ∧ CutAt H C p dx ra ha us ∧ ∀ l, H l = none → Q (.ref l) (upd H l (.lst (us.map V.int)))
theorem sc_Cut_rows : FnScope ["self"] ["self"] (defScope s_Cut_rows) :=
  ⟨rfl, rfl, rfl, by decide +kernel, rfl, by decide +kernel, by decide +kernel⟩
theorem ok_crows (F : Fun K "rows" "Cut.rows" s_Cut_rows f fd) (T : BlC18 mg) (S : CutT K C) : FnOk P w K mg base CX0 1 f fd ["self"] (spCRows C) := by
  refine F.ok sc_Cut_rows (fun vs H Q E h => ?_) (fun cdv A outer s H vs Q E hr h => ?_)
  · obtain ⟨p, _, _, _, _, rfl, _⟩ := h
    rfl
  obtain ⟨p, dx, ra, ha, us, rfl, M, q⟩ := h
  refine ⟨_, (pss_one (ps_ret (pe_callTy call_list_of (by rfl) T.list (by decide +kernel) (pa_cons (pe_fld (pv 0) (by rfl)) pa_nil)))), ?_⟩
  exact ⟨_, rfl, p, C, dx, _, _, rfl, M.hp, S.cl, S.rows, CuF_ra _ _, ra, _, rfl, .inl (SqL.of M.hr), fun l hl => q l hl⟩
def spCHas (C : Addr) : Sp := fun vs H Q _ => ∃ (p dx ra ha : Addr) (us : List Int) (x : Int), vs = [.ref p, .int x] ∧ CutAt H C p dx ra ha us ∧ Q (.bl (decide (x ∈ us))) H
theorem sc_Cut_has : FnScope ["self", "row"] ["self", "row"] (defScope s_Cut_has) :=
  ⟨rfl, rfl, rfl, by decide +kernel, rfl, by decide +kernel, by decide +kernel⟩
theorem ok_chas (F : Fun K "has" "Cut.has" s_Cut_has f fd) (S : CutT K C) : FnOk P w K mg base CX0 1 f fd ["self", "row"] (spCHas C) := by
  refine F.ok sc_Cut_has (fun vs H Q E h => ?_) (fun cdv A outer s H vs Q E hr h => ?_)
  · obtain ⟨p, _, _, _, _, _, rfl, _⟩ := h
    rfl
  obtain ⟨p, dx, ra, ha, us, x, rfl, M, q⟩ := h
  refine ⟨_, (pss_one (ps_ret (pe_cmp (pc_din (hu_of hr) (pv 1) (pe_fld (pv 0) (by rfl)))))), ?_⟩
  refine ⟨_, rfl, _, rfl, p, C, dx, _, _, rfl, M.hp, S.cl, S.held, CuF_ha _ _, ha, valV (hldV us) (Sum.inl x), rfl, DGet.k (k := Sum.inl x) M.hh, ?_⟩
  rw [hld_in]
  exact q
def spCLen (C : Addr) : Sp := fun vs H Q _ => ∃ (p dx ra ha : Addr) (us : List Int), vs = [.ref p] ∧ CutAt H C p dx ra ha us ∧ Q (.int us.length) H
theorem sc_Cut__len : FnScope ["self"] ["self"] (defScope s_Cut__len) :=
  ⟨rfl, rfl, rfl, by decide +kernel, rfl, by decide +kernel, by decide +kernel⟩
theorem ok_clen (F : Fun K "__len__" "Cut.__len__" s_Cut__len f fd) (T : BlC18 mg) (S : CutT K C) : FnOk P w K mg base CX0 1 f fd ["self"] (spCLen C) := by
  refine F.ok sc_Cut__len (fun vs H Q E h => ?_) (fun cdv A outer s H vs Q E hr h => ?_)
  · obtain ⟨p, _, _, _, _, rfl, _⟩ := h
    rfl
  obtain ⟨p, dx, ra, ha, us, rfl, M, q⟩ := h
  refine ⟨_, (pss_one (ps_ret (pe_callB call_len_seq (by rfl) T.len (by decide +kernel) (pa_cons (pe_fld (pv 0) (by rfl)) pa_nil)))), ?_⟩
  refine ⟨_, rfl, p, C, dx, _, _, rfl, M.hp, S.cl, S.rows, CuF_ra _ _, ra, _, rfl, .inl (SqL.of M.hr), ?_⟩
  rw [List.length_map]
  exact q
end

end G0
namespace G0
open PySem PySem.Spec PyProof.Rows L2
set_option maxHeartbeats 4000000
set_option pp.deepTerms.threshold 6
theorem dc_list {K : PySem.W.Frag} {a : Addr} {xs : List V} {g : TG} {tt : TT} {tk tv : TE} {vs : List Nat} {σ : L2.St} {H1 : Hp} {D : Addr} {Qd : Hp → Prop} (Pv : Nat → Hp → Prop) (start : Pv 0 (upd H1 D (.dK []))) (stays : ∀ i G, Pv i G → SqL K G a xs)
    (step : ∀ i x G, xs[i]? = some x → Pv i G → g x (wipe σ vs) G fun σ2 H2 => wipe σ2 vs = wipe σ vs ∧ tt σ2 H2 fun b H3 =>
      if b = true then tk σ2 H3 fun y H4 => tv σ2 H4 fun z H5 => ∃ kvs k, y = kV k ∧ H5 D = some (.dK kvs) ∧ kvs.length < sizeLine ∧ Pv (i + 1) (upd H5 D (.dK (putK kvs k z))) else Pv (i + 1) H3) (fin : ∀ G, Pv xs.length G → Qd G) :
    ∃ W : Nat → Nat → Hp → Prop, (∃ m, W 0 m (upd H1 D (.dK []))) ∧ ∀ i m G, W i m G →
      ((Itl K a).stop i G ∧ Qd G) ∨ ((Itl K a).go i G ∧ ∃ Nx : Hp → Prop, (∀ G', Nx G' → ∃ m', m' < m ∧ W (i + 1) m' G') ∧ ∀ x G', (Itl K a).yld i G x G' → g x (wipe σ vs) G' fun σ2 H2 => wipe σ2 vs = wipe σ vs ∧ tt σ2 H2 fun b H3 =>
        if b = true then tk σ2 H3 fun y H4 => tv σ2 H4 fun z H5 => ∃ kvs k, y = kV k ∧ H5 D = some (.dK kvs) ∧ kvs.length < sizeLine ∧ Nx (upd H5 D (.dK (putK kvs k z))) else Nx H3) := by
  refine ⟨fun i m G => m + i = xs.length ∧ Pv i G, ⟨xs.length, rfl, start⟩, ?_⟩
  rintro i m G ⟨e, p⟩
  have sq := stays i G p
  rcases Nat.lt_or_ge i xs.length with lt | ge
  · refine .inr ⟨⟨xs, xs[i], sq, List.getElem?_eq_getElem lt⟩, Pv (i + 1), fun G' p' => ⟨m - 1, by omega, by omega, p'⟩, fun x G' told => ?_⟩
    obtain ⟨rfl, y⟩ := told
    exact step i x G' (y xs sq) p
  · have e' : i = xs.length := by omega
    subst e'
    exact .inl ⟨⟨xs, sq, Nat.le_refl _⟩, fin G p⟩
/-! ### a cut is made -/
theorem none_same'' {H H' : Hp} (s : Same H H') {x : Addr} (h : H' x = none) : H x = none := by
  cases z : H x with
  | none => rfl
  | some y => rw [s _ _ z] at h; cases h
theorem yes_ite {A B : Hp → Prop} {σ : L2.St} {H : Hp} (h : A H) : tYes σ H (fun b H3 => if b = true then A H3 else B H3) := by
  show (if true = true then A H else B H)
  exact iteT h
section
variable {P : Program} {w : World} {K : PySem.W.Frag} {mg : Str → Option Value} {base : Heap} {C f : Addr} {fd : FuncData}
theorem fund_ok {P : Program} {w : World} {K : PySem.W.Frag} {mg : Str → Option Value} {base : Heap} {x qual : Str} {params : Arguments} {body : List Stmt} {scope : Scope} {dvs : List V} {kws : List (Str × V)} {f : Addr} {fd : FuncData} {N ps : List Str} {k : Nat} {sp : Sp}
    (F : FunD K x qual params body scope dvs kws f fd) (S : FnScope N ps scope) (len : ∀ vs H Q E, sp vs H Q E → vs.length = ps.length)
    (hbody : ∀ (cdv : Value) (A : Around) (outer : List Env) (s : Shared) (H : Hp) (vs : List V) (Q : VK) (E : XK), Room k (A.deeper (envOfC qual scope s.heap.objs.size f cdv)) → sp vs H Q E →
      ∃ t, PSs (cxOf CX0 P w K mg base N qual scope f cdv A outer s H E).nox body t ∧ t { nx := fun _ H' => Q .non H', rt := Q } (start N vs) H) : FnOk P w K mg base CX0 (k + 1) f fd ps sp :=
  F.ok S len fun cdv A outer s H vs Q E hr h => by
    obtain ⟨t, h1, h2⟩ := hbody cdv A outer s H vs Q E hr h
    exact ⟨t, h1.nox, h2⟩
def rSetOfLT (K : PySem.W.Frag) (w : World) : List V → Hp → VK → Prop := fun xs H Q => rSetOfI K w xs H Q ∨ rSetOfTI K w xs H Q
theorem cr_setOfLT {X : Cx} (calm : X.calm = true) : CallR X (.type "set") (rSetOfLT X.K X.w) := by
  intro pins s σ H xs us Q I r h
  rcases h with h | h
  · exact cr_setOfI calm pins s σ H xs us Q I r h
  · exact cr_setOfTI calm pins s σ H xs us Q I r h
def spCInit (K : PySem.W.Frag) (C : Addr) : Sp := fun vs H Q _ => ∃ (p dx l : Addr) (ns : List Int), vs = [.ref p, .ref l] ∧ H p = some (.ins C dx []) ∧ (SqL K H l (ns.map V.int) ∨ SqT K H l (ns.map V.int)) ∧ ns.length < 60 ∧
  ∀ ra ha us H', Chg p H H' → H ra = none → H ha = none → CutAt H' C p dx ra ha us → (∀ x, x ∈ us ↔ x ∈ ns) → Q .non H'
theorem sc_Cut__init : FnScope ["self", "rows", "row"] ["self", "rows"] (defScope s_Cut__init) :=
  ⟨rfl, rfl, rfl, by decide +kernel, rfl, by decide +kernel, by decide +kernel⟩
theorem ok_cinit {dvs : List V} {kws : List (Str × V)} (F : FunD K "__init__" "Cut.__init__" (defArgs s_Cut__init) (defBody s_Cut__init) (defScope s_Cut__init) dvs kws f fd) (T : BlC18 mg) (S : CutT K C) : FnOk P w K mg base CX0 1 f fd ["self", "rows"] (spCInit K C) := by
  refine fund_ok F sc_Cut__init (fun vs H Q E h => ?_) (fun cdv A outer s H vs Q E hr h => ?_)
  · obtain ⟨p, _, _, _, rfl, _⟩ := h
    rfl
  obtain ⟨p, dx, l, ns, rfl, hp, hl, l60, q⟩ := h
  refine ⟨_, (pss_cons (ps_fld (pv 0) (pe_callB (cr_sortedSet (by rfl)) (by rfl) T.sorted (by decide +kernel) (pa_cons (pe_callTy (cr_setOfLT (by rfl)) (by rfl) T.set (by decide +kernel) (pa_cons (pv 1) pa_nil)) pa_nil)) rfl)
    (pss_one (ps_fld (pv 0) (pe_dc (own := [("row", 2)]) (g := gName 2) (tt := tYes) (by rfl) sc_Cut__init.nd (pi_list (pe_fld (pv 0) (by rfl))) (blkOk_by (N := ["self", "rows", "row"]) (sc := defScope s_Cut__init) (by decide +kernel)) (fun _ _ _ _ _ => pg_name (i := 2) sc_Cut__init.nd rfl (Or.inl rfl)) (fun _ _ _ _ _ => pts_nil) (fun _ _ _ _ _ => (pv 2)) (fun _ _ _ _ _ => pe_bl)) rfl))), ?_⟩
  rcases hl with hl | hl
  · refine ⟨_, rfl, .inl ⟨l, ns, rfl, hl, by omega, ?_⟩⟩
    intro sa sc hsa lsc
    have u1 := same_upd (o := SetO w sa (fun j => decide (j ∈ ns)) sc) hsa
    refine ⟨sa, _, sc, rfl, upd_same, by omega, fun us la up mem lus hla => ?_⟩
    have u2 := same_upd (o := .lst (us.map V.int)) hla
    have u12 := u1.trans u2
    have hp2 := u12 _ _ hp
    have la0 : H la = none := none_same'' u1 hla
    have kla : upd (upd H sa (SetO w sa (fun j => decide (j ∈ ns)) sc)) la (.lst (us.map V.int)) la = some (.lst (us.map V.int)) := upd_same
    have npl : la ≠ p := (ne_of_none hp la0).symm
    refine ⟨_, rfl, p, C, dx, _, rfl, hp2, S.cl, S.rows, (by show 0 < 1000; decide), ?_⟩
    have c3 : Chg p H (upd (upd (upd H sa (SetO w sa (fun j => decide (j ∈ ns)) sc)) la (.lst (us.map V.int))) p (.ins C dx (putF "_rows" (.ref la) []))) := (Chg.same u12).trans Chg.self
    have hp3 : upd (upd (upd H sa (SetO w sa (fun j => decide (j ∈ ns)) sc)) la (.lst (us.map V.int))) p (.ins C dx (putF "_rows" (.ref la) [])) p = some (.ins C dx (putF "_rows" (.ref la) [])) := upd_same
    have kl3 := (upd_ne (o := .ins C dx (putF "_rows" (.ref la) [])) npl).trans kla
    refine ⟨_, rfl, p, C, dx, _, _, rfl, hp3, S.cl, S.rows, rfl, la, rfl, ⟨_, SqL.of kl3⟩, fun D hD => ?_⟩
    refine dc_list (K := K) (a := la) (xs := us.map V.int) (fun i G => Same (upd (upd (upd H sa (SetO w sa (fun j => decide (j ∈ ns)) sc)) la (.lst (us.map V.int))) p (.ins C dx (putF "_rows" (.ref la) []))) G ∧ G D = some (.dK (hldV (us.take i)))) ⟨same_upd hD, upd_same⟩ (fun i G h => SqL.of (h.1 _ _ kl3)) ?_ ?_
    · rintro i x G hx ⟨sG, kD⟩
      obtain ⟨k, hk, rfl⟩ := vals_atA hx
      have li := (List.getElem?_eq_some_iff.mp hk).1
      refine ⟨rfl, yes_ite ?_⟩
      refine ⟨_, rfl, _, Sum.inl k, rfl, kD, ?_, fun b o e => ?_, ?_⟩
      · unfold hldV
        rw [List.length_map]
        exact Nat.lt_of_le_of_lt (List.length_take_le _ _) (Nat.lt_of_lt_of_le (show i < 100 by omega) (by decide))
      · rw [upd_ne (ne_of_none e hD)]
        exact sG _ _ e
      · have nin : valV (hldV (us.take i)) (Sum.inl k) = none := by
          have h1 := hld_in (us.take i) k
          have h2 : k ∉ us.take i := fun z => by
            obtain ⟨j, lj, ej⟩ := List.mem_take_iff_getElem.mp z
            have lt := List.pairwise_iff_getElem.mp up j i (by omega) li (by omega)
            have ei : us[i] = k := (List.getElem?_eq_some_iff.mp hk).2
            omega
          rw [decide_eq_false h2] at h1
          cases z : valV (hldV (us.take i)) (Sum.inl k) with
          | none => rfl
          | some v => rw [z] at h1; cases h1
        rw [putK_new _ nin, List.take_succ, hk, upd_same]
        unfold hldV
        rw [List.map_append]
        rfl
    rintro G ⟨sG, kD⟩
    rw [List.length_map, List.take_length] at kD
    refine ⟨_, rfl, p, C, dx, _, rfl, sG _ _ hp3, S.cl, S.held, (by show 1 < 1000; decide), ?_⟩
    rw [CuF_made]
    have nDp : D ≠ p := (ne_of_none hp3 hD).symm
    have D0 : H D = none := c3.back hD nDp
    have c4 : Chg p H (upd G p (.ins C dx (CuF la D))) := (c3.trans (Chg.same sG)).trans Chg.self
    exact q la D us _ c4 la0 D0 ⟨upd_same, (upd_ne npl).trans (sG _ _ kl3), (upd_ne nDp).trans kD, up⟩ (fun x => by rw [mem x]; simp)
  · refine ⟨_, rfl, .inr ⟨l, ns, rfl, hl, by omega, ?_⟩⟩
    intro sa sc hsa lsc
    have u1 := same_upd (o := SetO w sa (fun j => decide (j ∈ ns)) sc) hsa
    refine ⟨sa, _, sc, rfl, upd_same, by omega, fun us la up mem lus hla => ?_⟩
    have u2 := same_upd (o := .lst (us.map V.int)) hla
    have u12 := u1.trans u2
    have hp2 := u12 _ _ hp
    have la0 : H la = none := none_same'' u1 hla
    have kla : upd (upd H sa (SetO w sa (fun j => decide (j ∈ ns)) sc)) la (.lst (us.map V.int)) la = some (.lst (us.map V.int)) := upd_same
    have npl : la ≠ p := (ne_of_none hp la0).symm
    refine ⟨_, rfl, p, C, dx, _, rfl, hp2, S.cl, S.rows, (by show 0 < 1000; decide), ?_⟩
    have c3 : Chg p H (upd (upd (upd H sa (SetO w sa (fun j => decide (j ∈ ns)) sc)) la (.lst (us.map V.int))) p (.ins C dx (putF "_rows" (.ref la) []))) := (Chg.same u12).trans Chg.self
    have hp3 : upd (upd (upd H sa (SetO w sa (fun j => decide (j ∈ ns)) sc)) la (.lst (us.map V.int))) p (.ins C dx (putF "_rows" (.ref la) [])) p = some (.ins C dx (putF "_rows" (.ref la) [])) := upd_same
    have kl3 := (upd_ne (o := .ins C dx (putF "_rows" (.ref la) [])) npl).trans kla
    refine ⟨_, rfl, p, C, dx, _, _, rfl, hp3, S.cl, S.rows, rfl, la, rfl, ⟨_, SqL.of kl3⟩, fun D hD => ?_⟩
    refine dc_list (K := K) (a := la) (xs := us.map V.int) (fun i G => Same (upd (upd (upd H sa (SetO w sa (fun j => decide (j ∈ ns)) sc)) la (.lst (us.map V.int))) p (.ins C dx (putF "_rows" (.ref la) []))) G ∧ G D = some (.dK (hldV (us.take i)))) ⟨same_upd hD, upd_same⟩ (fun i G h => SqL.of (h.1 _ _ kl3)) ?_ ?_
    · rintro i x G hx ⟨sG, kD⟩
      obtain ⟨k, hk, rfl⟩ := vals_atA hx
      have li := (List.getElem?_eq_some_iff.mp hk).1
      refine ⟨rfl, yes_ite ?_⟩
      refine ⟨_, rfl, _, Sum.inl k, rfl, kD, ?_, fun b o e => ?_, ?_⟩
      · unfold hldV
        rw [List.length_map]
        exact Nat.lt_of_le_of_lt (List.length_take_le _ _) (Nat.lt_of_lt_of_le (show i < 100 by omega) (by decide))
      · rw [upd_ne (ne_of_none e hD)]
        exact sG _ _ e
      · have nin : valV (hldV (us.take i)) (Sum.inl k) = none := by
          have h1 := hld_in (us.take i) k
          have h2 : k ∉ us.take i := fun z => by
            obtain ⟨j, lj, ej⟩ := List.mem_take_iff_getElem.mp z
            have lt := List.pairwise_iff_getElem.mp up j i (by omega) li (by omega)
            have ei : us[i] = k := (List.getElem?_eq_some_iff.mp hk).2
            omega
          rw [decide_eq_false h2] at h1
          cases z : valV (hldV (us.take i)) (Sum.inl k) with
          | none => rfl
          | some v => rw [z] at h1; cases h1
        rw [putK_new _ nin, List.take_succ, hk, upd_same]
        unfold hldV
        rw [List.map_append]
        rfl
    rintro G ⟨sG, kD⟩
    rw [List.length_map, List.take_length] at kD
    refine ⟨_, rfl, p, C, dx, _, rfl, sG _ _ hp3, S.cl, S.held, (by show 1 < 1000; decide), ?_⟩
    rw [CuF_made]
    have nDp : D ≠ p := (ne_of_none hp3 hD).symm
    have D0 : H D = none := c3.back hD nDp
    have c4 : Chg p H (upd G p (.ins C dx (CuF la D))) := (c3.trans (Chg.same sG)).trans Chg.self
    exact q la D us _ c4 la0 D0 ⟨upd_same, (upd_ne npl).trans (sG _ _ kl3), (upd_ne nDp).trans kD, up⟩ (fun x => by rw [mem x]; simp)
end

end G0
namespace G0
open PySem PySem.Spec PyProof.Rows L2
set_option maxHeartbeats 4000000
set_option pp.deepTerms.threshold 6
section
variable {P : Program} {w : World} {K : PySem.W.Frag} {mg : Str → Option Value} {base : Heap} {C f : Addr} {fd : FuncData}
/-! ### a cut's ==, and those made of two -/
def MeQ (P : Program) (w : World) (K : PySem.W.Frag) (mg : Str → Option Value) (base : Heap) (C : Addr) (x : Str) (k : Nat) (ps : List Str) (sp : Sp) : Prop :=
  ∃ f fd, FnOk P w K mg base CX0 k f fd ps sp ∧ Binds K fd ps [] ∧ Meth K C x f
structure MkCut (P : Program) (w : World) (K : PySem.W.Frag) (mg : Str → Option Value) (base : Heap) (C : Addr) : Prop where
  made : ∃ f fd, FnOk P w K mg base CX0 1 f fd ["self", "rows"] (spCInit K C) ∧ Binds K fd ["self", "rows"] [] ∧ Mk K C f
  mg : mg "Cut" = some (.ref C)
theorem Chg.fresh {p : Addr} {H H' : Hp} (h : Chg p H H') (hp : H p = none) : Same H H' := fun b o e => h b o (ne_of_none e hp) e
def spCJoin (C : Addr) : Sp := fun vs H Q _ => ∃ (p dx ra ha p2 dx2 ra2 ha2 : Addr) (us ws : List Int), vs = [.ref p, .ref p2] ∧ CutAt H C p dx ra ha us ∧ CutAt H C p2 dx2 ra2 ha2 ws ∧ us.length + ws.length < 60 ∧
  ∀ (p3 dx3 ra3 ha3 : Addr) (xs : List Int) (H' : Hp), H p3 = none → Same H H' → CutAt H' C p3 dx3 ra3 ha3 xs → (∀ x, x ∈ xs ↔ x ∈ us ++ ws) → Q (.ref p3) H'
theorem sc_Cut_joined : FnScope ["self", "other"] ["self", "other"] (defScope s_Cut_joined) :=
  ⟨rfl, rfl, rfl, by decide +kernel, rfl, by decide +kernel, by decide +kernel⟩
theorem ok_cjoin (F : Fun K "joined" "Cut.joined" s_Cut_joined f fd) (T : BlC18 mg) (S : CutT K C) (MC : MkCut P w K mg base C) (MR : MeQ P w K mg base C "rows" 1 ["self"] (spCRows C)) : FnOk P w K mg base CX0 3 f fd ["self", "other"] (spCJoin C) := by
  obtain ⟨fR, fdR, GR, bR, mR⟩ := MR
  obtain ⟨fC, fdC, GC, bC, MI⟩ := MC.made
  have gC := MC.mg
  refine F.ok sc_Cut_joined (fun vs H Q E h => ?_) (fun cdv A outer s H vs Q E hr h => ?_)
  · obtain ⟨p, _, _, _, _, _, _, _, _, _, rfl, _⟩ := h
    rfl
  obtain ⟨p, dx, ra, ha, p2, dx2, ra2, ha2, us, ws, rfl, M1, M2, lt, q⟩ := h
  have hr1 := hr.mono (show 1 ≤ 2 by decide)
  refine ⟨_, (pss_one (ps_ret (pe_make MI GC hr (by rfl) gC bC .nil pass0 (pa_cons (pe_op op_cat (pe_fld (pv 0) (by rfl)) (pe_meth0 (pv 1) S.cl mR GR hr1 bR .nil pass0)) pa_nil)))), ?_⟩
  refine ⟨_, rfl, p, C, dx, _, _, rfl, M1.hp, S.cl, S.rows, CuF_ra _ _, _, rfl, p2, dx2, _, rfl, M2.hp, CuF_no _ _ (by decide +kernel) (by decide +kernel), ?_⟩
  refine ⟨p2, dx2, ra2, ha2, ws, rfl, M2, fun l hl => ?_⟩
  have s1 : Same H (upd H l (.lst (ws.map V.int))) := same_upd hl
  refine ⟨ra, l, _, _, rfl, rfl, s1 _ _ M1.hr, upd_same, Nat.le_trans (show _ ≤ 100 by rw [List.length_map, List.length_map]; omega) (by decide), fun l2 hl2 => fun x y hx hy ne => ?_⟩
  have s2 : Same (upd H l (.lst (ws.map V.int))) (upd (upd H l (.lst (ws.map V.int))) l2 (.lst (us.map V.int ++ ws.map V.int))) := same_upd hl2
  have s3 := (same_upd (o := .own x) hy).trans (same_upd (o := .ins C y []) (by rw [upd_ne ne.symm]; exact hx))
  have sx := (s1.trans s2).trans s3
  rw [← List.map_append] at *
  refine ⟨x, y, l2, us ++ ws, rfl, upd_same, .inl (SqL.of (s3 _ _ upd_same)), by rw [List.length_append]; exact lt, fun ra3 ha3 xs H' c r0 h0 A mem => ⟨rfl, ?_⟩⟩
  have x0 : H x = none := none_same'' (s1.trans s2) hx
  exact q x y ra3 ha3 xs H' x0 (fun b o e => c b o (ne_of_none e x0) (sx b o e)) A mem
end

end G0
namespace G0
open PySem PySem.Spec PyProof.Rows L2
set_option maxHeartbeats 4000000
set_option pp.deepTerms.threshold 6
section
variable {P : Program} {w : World} {K : PySem.W.Frag} {mg : Str → Option Value} {base : Heap} {C f : Addr} {fd : FuncData}
def spCShare (C : Addr) : Sp := fun vs H Q _ => ∃ (p dx ra ha p2 dx2 ra2 ha2 : Addr) (us ws : List Int), vs = [.ref p, .ref p2] ∧ CutAt H C p dx ra ha us ∧ CutAt H C p2 dx2 ra2 ha2 ws ∧ us.length < 60 ∧
  ∀ (p3 dx3 ra3 ha3 : Addr) (xs : List Int) (H' : Hp), H p3 = none → Same H H' → CutAt H' C p3 dx3 ra3 ha3 xs → (∀ x, x ∈ xs ↔ x ∈ us.filter fun x => decide (x ∈ ws)) → Q (.ref p3) H'
theorem sc_Cut_shared : FnScope ["self", "other", "row"] ["self", "other"] (defScope s_Cut_shared) :=
  ⟨rfl, rfl, rfl, by decide +kernel, rfl, by decide +kernel, by decide +kernel⟩
theorem ok_cshare (F : Fun K "shared" "Cut.shared" s_Cut_shared f fd) (T : BlC18 mg) (S : CutT K C) (MC : MkCut P w K mg base C) (MH : MeQ P w K mg base C "has" 1 ["self", "row"] (spCHas C)) : FnOk P w K mg base CX0 3 f fd ["self", "other"] (spCShare C) := by
  obtain ⟨fR, fdR, GR, bR, mR⟩ := MH
  obtain ⟨fC, fdC, GC, bC, MI⟩ := MC.made
  have gC := MC.mg
  refine F.ok sc_Cut_shared (fun vs H Q E h => ?_) (fun cdv A outer s H vs Q E hr h => ?_)
  · obtain ⟨p, _, _, _, _, _, _, _, _, _, rfl, _⟩ := h
    rfl
  obtain ⟨p, dx, ra, ha, p2, dx2, ra2, ha2, us, ws, rfl, M1, M2, lt, q⟩ := h
  have hr1 := hr.mono (show 1 ≤ 2 by decide)
  refine ⟨_, (pss_one (ps_ret (pe_make MI GC hr (by rfl) gC bC .nil pass0 (pa_cons (pe_lc (own := [("row", 2)]) (g := gName 2)  (by rfl) sc_Cut_shared.nd (pi_list (pe_fld (pv 0) (by rfl))) (blkOk_by (N := ["self", "other", "row"]) (sc := defScope s_Cut_shared) (by decide +kernel)) (fun _ _ _ _ _ => pg_name (i := 2) sc_Cut_shared.nd rfl (Or.inl rfl)) (fun _ _ _ _ _ => pts_one (pt_val (pe_meth (pv 1) S.cl mR GR hr1 bR .nil pass0 (pa_cons (pv 2) pa_nil)))) (fun _ _ _ _ _ => (pv 2))) pa_nil)))), ?_⟩
  refine ⟨_, rfl, p, C, dx, _, _, rfl, M1.hp, S.cl, S.rows, CuF_ra _ _, ra, rfl, ⟨_, SqL.of M1.hr⟩, fun D hD => ?_⟩
  refine lc_filtI (K := K) (a := ra) (ns := us) (fun x => decide (x ∈ ws)) (by omega) hD (SqL.of M1.hr) (fun i x G Y B hx sG h => ?_) (fun G sG kD => ?_)
  · have N2 := M2.same sG
    refine ⟨rfl, ?_⟩
    refine ⟨_, rfl, p2, dx2, _, rfl, N2.hp, CuF_no _ _ (by decide +kernel) (by decide +kernel), _, rfl, p2, dx2, ra2, ha2, ws, x, rfl, N2, _, rfl, ?_⟩
    exact tst rfl (fun h => ⟨_, rfl, h⟩) h
  intro x y hx hy ne
  have s3 := (same_upd (o := .own x) hy).trans (same_upd (o := .ins C y []) (by rw [upd_ne ne.symm]; exact hx))
  have sx := sG.trans s3
  refine ⟨x, y, D, us.filter fun x => decide (x ∈ ws), rfl, upd_same, .inl (SqL.of (s3 _ _ kD)), Nat.lt_of_le_of_lt (List.length_filter_le ..) lt, fun ra3 ha3 xs H' c r0 h0 A mem => ⟨rfl, ?_⟩⟩
  have x0 : H x = none := none_same'' sG hx
  exact q x y ra3 ha3 xs H' x0 (fun b o e => c b o (ne_of_none e x0) (sx b o e)) A mem
structure CutL (K : PySem.W.Frag) (C : Addr) : Prop where
  ha : PySem.W.findIn K (.ref C) "__class__" = some (some (.builtin "object.__class__"))
  hn : PySem.W.specialIn K (.builtin "object.__class__") "__get__" = some (some (.builtin "getset_descriptor.__get__"))
  ht : PySem.W.takesIn K (.builtin "object.__class__") = some true
  hm : PySem.W.mroIn K C (.type "object") = some true
  kL : PySem.W.kitOne K (.type "list") (.ref C) = some false
theorem kit_self {K : PySem.W.Frag} {t : Value} : PySem.W.kitOne K t t = some true := by
  unfold PySem.W.kitOne
  rw [if_pos (beq_self_eq_true t)]
theorem CutL.ty {H : Hp} {p dx ra ha : Addr} {us : List Int} (L : CutL K C) (cl : Cls K C) (M : CutAt H C p dx ra ha us) : TyX K H (.ref p) (.ref C) := .base (.ins M.hp cl L.ha L.hn L.ht L.hm)
theorem eqv_intss : ∀ k n : List Int, PyData.eqvAll (k.map PyData.int) (n.map PyData.int) = decide (k = n)
  | [], [] => by simp [PyData.eqvAll]
  | [], _ :: _ => by simp [PyData.eqvAll]
  | _ :: _, [] => by simp [PyData.eqvAll]
  | i :: r, j :: q => by
    have ih := eqv_intss r q
    simp only [List.map_cons, PyData.eqvAll, PyData.eqv, ih]
    by_cases h1 : i = j <;> by_cases h2 : r = q <;> simp [h1, h2]
theorem eqv_il (k n : List Int) : PyData.eqv (.list (k.map PyData.int)) (.list (n.map PyData.int)) = decide (k = n) := by
  have := eqv_intss k n
  simp only [PyData.eqv, this]
def spCEq (K : PySem.W.Frag) (C : Addr) : Sp := fun vs H Q _ => ∃ (p dx ra ha : Addr) (us : List Int) (p2 : Addr), vs = [.ref p, .ref p2] ∧ CutAt H C p dx ra ha us ∧
  ((∃ dx2 ra2 ha2 ws, CutAt H C p2 dx2 ra2 ha2 ws ∧ Q (.bl (decide (us = ws))) H) ∨ ∃ ys, H p2 = some (.lst ys) ∧ Q (.bl false) H)
theorem sc_Cut__eq : FnScope ["self", "other"] ["self", "other"] (defScope s_Cut__eq) :=
  ⟨rfl, rfl, rfl, by decide +kernel, rfl, by decide +kernel, by decide +kernel⟩
theorem ok_ceq (F : Fun K "__eq__" "Cut.__eq__" s_Cut__eq f fd) (T : BlC18 mg) (S : CutT K C) (L : CutL K C) (gC : mg "Cut" = some (.ref C)) : FnOk P w K mg base CX0 1 f fd ["self", "other"] (spCEq K C) := by
  refine F.ok sc_Cut__eq (fun vs H Q E h => ?_) (fun cdv A outer s H vs Q E hr h => ?_)
  · obtain ⟨p, _, _, _, _, _, rfl, _⟩ := h
    rfl
  obtain ⟨p, dx, ra, ha, us, p2, rfl, M, q⟩ := h
  refine ⟨_, (pss_one (ps_ret (pe_and (pe_callB call_isi (by rfl) T.isinstance (by decide +kernel) (pa_cons (pv 1) (pa_cons (pe_glob (v := .ref C) (by rfl) gC rfl) pa_nil))) (pe_one (pe_cmpR (op_eqD (u64 hr)) (pe_fld (pv 0) (by rfl)) (pe_fld (pv 1) (by rfl)) (nomark _)))))), ?_⟩
  rcases q with ⟨dx2, ra2, ha2, ws, M2, q⟩ | ⟨ys, h2, q⟩
  · refine ⟨_, rfl, .ref p2, .ref C, _, _, _, rfl, .own C, L.ty S.cl M2, kit_self, _, rfl, iteT' rfl ?_⟩
    refine ⟨_, rfl, p, C, dx, _, _, rfl, M.hp, S.cl, S.rows, CuF_ra _ _, _, rfl, p2, C, dx2, _, _, rfl, M2.hp, S.cl, S.rows, CuF_ra _ _, _, _, dp_ints M.hr, dp_ints M2.hr, shaped_ints _, shaped_ints _, ?_⟩
    rw [eqv_il]
    exact q
  · refine ⟨_, rfl, .ref p2, .ref C, _, _, _, rfl, .own C, .base (.lst h2), L.kL, _, rfl, iteF' rfl q⟩
end

end G0
namespace G0
open PySem PySem.Spec PyProof.Rows L2
set_option maxHeartbeats 4000000
/-! ### stretches and their texts -/
section
open TL
def sI (x : Int) : Str := Str.ofString (toString x)
def stT (f l : Int) : Str := if f = l then sI f else sI f ++ "-" ++ sI l
def stL (f l : Int) : List Nat := if f = l then tl (sI f) else tl (sI f) ++ 45 :: tl (sI l)
theorem tl_stT (f l : Int) : tl (stT f l) = stL f l := by
  unfold stT stL
  split
  · rfl
  · rw [tl_append, tl_append, List.append_assoc]
    rfl
def fs : Option Int → List Int → List Int
  | _, [] => []
  | p, x :: r => (if p = some (x - 1) then [] else [x]) ++ fs (some x) r
def ls : List Int → List Int
  | [] => []
  | x :: r => (if r.head? = some (x + 1) then [] else [x]) ++ ls r
def lw : Option Int → List Int → List Nat
  | _, [] => []
  | p, x :: r => (if p = some (x - 1) then (if r.head? = some (x + 1) then [] else 45 :: tl (sI x)) else (if p = none then [] else [32]) ++ tl (sI x)) ++ lw (some x) r
theorem lw_cons (p : Option Int) (x : Int) (r : List Int) : lw p (x :: r) = (if p = some (x - 1) then (if r.head? = some (x + 1) then [] else 45 :: tl (sI x)) else (if p = none then [] else [32]) ++ tl (sI x)) ++ lw (some x) r := rfl
def outT : Int → Int → List Int → List Nat
  | f, p, [] => if f = p then [] else 45 :: tl (sI p)
  | f, p, x :: r => if x = p + 1 then outT f x r else (if f = p then [] else 45 :: tl (sI p)) ++ (32 :: tl (sI x) ++ outT x x r)
theorem lw_out : ∀ (r : List Int) (f p : Int), f ≤ p → (p :: r).Pairwise (· < ·) → (if r.head? = some (p + 1) then [] else if f = p then [] else 45 :: tl (sI p)) ++ lw (some p) r = outT f p r
  | [], f, p, _, _ => by
    simp [lw, outT]
  | x :: r, f, p, fp, up => by
    have px : p < x := (List.pairwise_cons.mp up).1 x (List.mem_cons_self ..)
    have up2 := (List.pairwise_cons.mp up).2
    by_cases e : x = p + 1
    · subst e
      have ih := lw_out r f (p + 1) (by omega) up2
      have nf : ¬ f = p + 1 := by omega
      rw [if_neg nf] at ih
      have e1 : p + 1 - 1 = p := by omega
      simp only [List.head?_cons, if_true, List.nil_append, lw, outT, e1]
      exact ih
    · have ih := lw_out r x x (Int.le_refl _) up2
      have n1 : ¬ ((x :: r).head? = some (p + 1)) := fun z => e (Option.some.inj z)
      have n2 : ¬ (some p = some (x - 1)) := fun z => e (by have := Option.some.inj z; omega)
      have n3 : ¬ (some p = (none : Option Int)) := by simp
      simp only [if_true, ite_self, List.nil_append] at ih
      rw [if_neg n1]
      simp only [lw, outT, if_neg n2, if_neg n3, if_neg e]
      rw [ih]
      simp only [List.append_assoc, List.cons_append, List.nil_append]
theorem ls_ne : ∀ (r : List Int) (p : Int), (if r.head? = some (p + 1) then [] else [p]) ++ ls r ≠ []
  | [], p => by simp
  | x :: r, p => by
    intro z
    have := (List.append_eq_nil_iff.mp z).2
    exact ls_ne r x this
theorem join_zip : ∀ (r : List Int) (f p : Int), (p :: r).Pairwise (· < ·) →
    joinL [32] (((f :: fs (some p) r).zip ((if r.head? = some (p + 1) then [] else [p]) ++ ls r)).map fun q => stL q.1 q.2) = tl (sI f) ++ outT f p r
  | [], f, p, _ => by
    simp [fs, ls, outT, stL, joinL]
    split <;> simp
  | x :: r, f, p, up => by
    have px : p < x := (List.pairwise_cons.mp up).1 x (List.mem_cons_self ..)
    have up2 := (List.pairwise_cons.mp up).2
    by_cases e : x = p + 1
    · subst e
      have ih := join_zip r f (p + 1) up2
      have e1 : p + 1 - 1 = p := by omega
      simp only [List.head?_cons, if_true, List.nil_append, fs, ls, outT, e1]
      exact ih
    · have ih := join_zip r x x up2
      have n1 : ¬ ((x :: r).head? = some (p + 1)) := fun z => e (Option.some.inj z)
      have n2 : ¬ (some p = some (x - 1)) := fun z => e (by have := Option.some.inj z; omega)
      have ne := ls_ne r x
      rw [if_neg n1]
      simp only [fs, ls, outT, if_neg n2, if_neg e, List.cons_append, List.nil_append]
      simp only [List.cons_append, List.nil_append, List.zip_cons_cons, List.map_cons]
      cases el : (if r.head? = some (x + 1) then [] else [x]) ++ ls r with
      | nil => exact (ne el).elim
      | cons l lr =>
        rw [el] at ih
        simp only [List.zip_cons_cons, List.map_cons] at ih ⊢
        show stL f p ++ ([32] ++ joinL [32] _) = _
        rw [ih]
        unfold stL
        split <;> simp
theorem prev_iff {us pre r : List Int} {x : Int} (up : us.Pairwise (· < ·)) (e : us = pre ++ x :: r) : (x - 1 ∈ us) ↔ pre.getLast? = some (x - 1) := by
  rw [e] at up
  have u1 := List.pairwise_append.mp up
  constructor
  · intro m
    rw [e] at m
    rcases List.mem_append.mp m with m | m
    · have nn : pre ≠ [] := List.ne_nil_of_mem m
      rw [List.getLast?_eq_some_getLast nn]
      have lm := List.getLast_mem nn
      have l1 := u1.2.2 _ lm x (List.mem_cons_self ..)
      rcases List.mem_iff_append.mp m with ⟨s, t, es⟩
      cases t with
      | nil => simp [es]
      | cons b t =>
        have lb : pre.getLast nn ∈ b :: t := by
          have : pre.getLast nn = (s ++ (x - 1) :: b :: t).getLast (by simp) := by simp [es]
          rw [this, List.getLast_append_of_ne_nil (by simp) (by simp), List.getLast_cons (by simp)]
          exact List.getLast_mem _
        have u2 := u1.1
        rw [es] at u2
        have u3 := (List.pairwise_append.mp u2).2.1
        have := (List.pairwise_cons.mp u3).1 _ lb
        omega
    · rcases List.mem_cons.mp m with m | m
      · omega
      · have := (List.pairwise_cons.mp u1.2.1).1 _ m
        omega
  · intro h
    rw [e]
    exact List.mem_append_left _ (List.mem_of_getLast? h)
theorem next_iff {us pre r : List Int} {x : Int} (up : us.Pairwise (· < ·)) (e : us = pre ++ x :: r) : (x + 1 ∈ us) ↔ r.head? = some (x + 1) := by
  rw [e] at up
  have u1 := List.pairwise_append.mp up
  constructor
  · intro m
    rw [e] at m
    rcases List.mem_append.mp m with m | m
    · have := u1.2.2 _ m x (List.mem_cons_self ..)
      omega
    · rcases List.mem_cons.mp m with m | m
      · omega
      · have u3 := List.pairwise_cons.mp u1.2.1
        cases r with
        | nil => cases m
        | cons y r =>
          rcases List.mem_cons.mp m with m | m
          · simp [m]
          · have h1 := u3.1 y (List.mem_cons_self ..)
            have h2 := (List.pairwise_cons.mp u3.2).1 _ m
            omega
  · intro h
    rw [e]
    exact List.mem_append_right _ (List.mem_cons_of_mem _ (List.mem_of_head? h))
theorem fs_filter (us : List Int) (up : us.Pairwise (· < ·)) : ∀ (r pre : List Int), us = pre ++ r → r.filter (fun x => decide (x - 1 ∉ us)) = fs pre.getLast? r
  | [], _, _ => rfl
  | x :: r, pre, e => by
    have ih := fs_filter us up r (pre ++ [x]) (by rw [e]; simp)
    rw [List.getLast?_append] at ih
    simp only [List.getLast?_singleton, Option.some_or] at ih
    have key := prev_iff up e
    rw [List.filter_cons]
    unfold fs
    by_cases c : pre.getLast? = some (x - 1)
    · rw [if_pos c, decide_eq_false (by simp [key, c])]
      simpa using ih
    · rw [if_neg c, decide_eq_true (by simp [key, c])]
      simpa using ih
theorem ls_filter (us : List Int) (up : us.Pairwise (· < ·)) : ∀ (r pre : List Int), us = pre ++ r → r.filter (fun x => decide (x + 1 ∉ us)) = ls r
  | [], _, _ => rfl
  | x :: r, pre, e => by
    have ih := ls_filter us up r (pre ++ [x]) (by rw [e]; simp)
    have key := next_iff up e
    rw [List.filter_cons]
    unfold ls
    by_cases c : r.head? = some (x + 1)
    · rw [if_pos c, decide_eq_false (by simp [key, c])]
      simpa using ih
    · rw [if_neg c, decide_eq_true (by simp [key, c])]
      simpa using ih
/-- what a cut's text is -/
def cutText (us : List Int) : Str := if us = [] then "none" else Txt.join " " (((fs none us).zip (ls us)).map fun q => stT q.1 q.2)
theorem cutText_lw (us : List Int) (up : us.Pairwise (· < ·)) (ne : us ≠ []) : tl (cutText us) = lw none us := by
  unfold cutText
  rw [if_neg ne, join_eq, tl_join, List.map_map]
  cases us with
  | nil => exact (ne rfl).elim
  | cons x r =>
    have h := join_zip r x x up
    have h2 := lw_out r x x (Int.le_refl _) up
    simp only [if_true, ite_self, List.nil_append] at h2
    have e1 : (fun q : Int × Int => stL q.1 q.2) = tl ∘ fun q : Int × Int => stT q.1 q.2 := funext fun q => (tl_stT q.1 q.2).symm
    have e2 : tl (" " : Str) = [32] := rfl
    rw [← e1, e2]
    have e3 : fs none (x :: r) = x :: fs (some x) r := by simp [fs]
    have e4 : ls (x :: r) = (if r.head? = some (x + 1) then [] else [x]) ++ ls r := rfl
    rw [e3, e4, h, ← h2]
    simp [lw]
theorem str_nil {z : Str} : z = "" ↔ tl z = [] := ⟨fun h => by rw [h]; rfl, fun h => ext_tl (by rw [h]; rfl)⟩
theorem numL_len : ∀ (k n : Nat), n < 10 ^ (k + 1) → (numL n).length ≤ k + 1
  | 0, n, h => by rw [numL_lt (by simpa using h)]; simp
  | k + 1, n, h => by
    by_cases c : n < 10
    · rw [numL_lt c]; simp
    · rw [numL_step (by omega), List.length_append]
      have := numL_len k (n / 10) (by
        refine Nat.div_lt_of_lt_mul ?_
        rw [Nat.mul_comm]
        simpa [Nat.pow_succ] using h)
      simp only [List.length_cons, List.length_nil]
      omega
theorem numL_pos (n : Nat) : numL n ≠ [] := by
  by_cases c : n < 10
  · rw [numL_lt c]; simp
  · rw [numL_step (by omega)]; simp
def SmI (x : Int) : Prop := 0 ≤ x ∧ x < 1000000000
theorem tl_sI {x : Int} (h : SmI x) : tl (sI x) = numL x.toNat := by
  have := tl_num x.toNat
  rw [Int.toNat_of_nonneg h.1] at this
  exact this
theorem tl_len (z : Str) : z.length = (tl z).length := by
  show z.cps.size = z.cps.toList.length
  simp
theorem sI_len {x : Int} (h : SmI x) : (tl (sI x)).length ≤ 9 := by
  rw [tl_sI h]
  refine numL_len 8 _ ?_
  have := h.2
  have := h.1
  omega
theorem sI_pos {x : Int} (h : SmI x) : tl (sI x) ≠ [] := by
  rw [tl_sI h]
  exact numL_pos _
theorem sI_log {x : Int} (h : SmI x) : x.natAbs.log2 < 1920 := by
  by_cases z : x.natAbs = 0
  · rw [z]; decide
  · refine (Nat.log2_lt z).mpr (Nat.lt_of_lt_of_le (m := 2 ^ 30) ?_ (Nat.pow_le_pow_right (by decide) (by decide)))
    have := h.1
    have := h.2
    omega
theorem stT_len {f l : Int} (hf : SmI f) (hl : SmI l) : (stT f l).length ≤ 19 := by
  rw [tl_len, tl_stT]
  unfold stL
  have := sI_len hf
  have := sI_len hl
  split
  · omega
  · simp only [List.length_append, List.length_cons]; omega
theorem lw_len : ∀ (r : List Int) (p : Option Int), (∀ x ∈ r, SmI x) → (lw p r).length ≤ 10 * r.length
  | [], _, _ => by simp [lw]
  | x :: r, p, h => by
    have ih := lw_len r (some x) (fun y hy => h y (List.mem_cons_of_mem _ hy))
    have := sI_len (h x (List.mem_cons_self ..))
    unfold lw
    rw [List.length_append, List.length_cons]
    have h1 : (if p = some (x - 1) then (if r.head? = some (x + 1) then [] else 45 :: tl (sI x)) else (if p = none then [] else [32]) ++ tl (sI x)).length ≤ 10 := by
      split
      · split
        · simp
        · simp only [List.length_cons]; omega
      · rw [List.length_append]
        have e0 : ([] : List Nat).length = 0 := rfl
        have e1 : ([32] : List Nat).length = 1 := rfl
        split
        · rw [e0]; omega
        · rw [e1]; omega
    omega
end

end G0
namespace G0
open PySem PySem.Spec PyProof.Rows L2
set_option maxHeartbeats 4000000
set_option pp.deepTerms.threshold 6
section
variable {P : Program} {w : World} {K : PySem.W.Frag} {mg : Str → Option Value} {base : Heap} {C f : Addr} {fd : FuncData}
/-! ### a cut's text -/
theorem paired_mapR {α β γ : Type} {F : α → γ → Prop} {g : β → γ} : ∀ {xs : List α} {ys : List β}, Paired F xs (ys.map g) → Paired (fun x y => F x (g y)) xs ys
  | [], [], _ => .nil
  | _ :: _, [], h => nomatch h
  | [], _ :: _, h => nomatch h
  | _ :: _, _ :: _, .cons a b => .cons a (paired_mapR b)
def spCST : Sp := fun vs H Q _ => ∃ f l : Int, vs = [.int f, .int l] ∧ SmI f ∧ SmI l ∧ Q (.str (stT f l)) H
theorem sc_stretch_text : FnScope ["first", "last"] ["first", "last"] (defScope s_stretch_text) :=
  ⟨rfl, rfl, rfl, by decide +kernel, rfl, by decide +kernel, by decide +kernel⟩
theorem ok_cst (F : Fn K mg "_stretch_text" s_stretch_text) (T : BlS mg) : Cal P w K mg base "_stretch_text" 1 ["first", "last"] spCST := by
  refine cal_of F sc_stretch_text
    (fun _ _ _ _ _ _ us hl => match us, hl with | [_, _], _ => rfl) ?_ ?_
  · rintro vs H Q E ⟨f, l, rfl, _⟩
    rfl
  rintro f0 cdv A outer s H vs Q E free hr ⟨f, l, rfl, hf, hl, q⟩
  refine ⟨_, (pss_cons (ps_if (pt_cmpR op_eq (pv 0) (pv 1) (nomark _))
    (pss_one (ps_ret (pe_callTy call_str_int (by rfl) T.str (by decide +kernel) (pa_cons (pv 0) pa_nil))))
    pss_nil)
    (pss_one (ps_ret (pe_joined (PJ.cons (pe_fmt (pv 0)) (PJ.cons pe_str (PJ.cons (pe_fmt (pv 1)) PJ.nil))))))), ?_⟩
  have l1 := sI_len hf
  have l2 := sI_len hl
  have e0 : (Str.empty ++ sI f) = sI f := TL.ext_tl (by rw [TL.tl_append]; rfl)
  have l3 : (TL.tl ("-" : Str)).length = 1 := rfl
  have big : ∀ n : Nat, n ≤ 19 → n ≤ sizeLine := fun n h => Nat.le_trans h (by decide)
  refine ⟨_, rfl, _, rfl, rfl, _, rfl, ?_⟩
  refine ite2 (fun c => ?_) (fun c => ?_)
  · have e : f = l := V.int.inj (of_decide_eq_true c)
    refine ⟨_, rfl, f, rfl, sI_log hf, ?_⟩
    unfold stT at q
    rw [if_pos e] at q
    exact q
  · have e : ¬ f = l := fun z => c (by rw [z]; exact decide_eq_true rfl)
    refine ⟨_, rfl, .inr ⟨f, rfl, sI_log hf, _, rfl, ?_, ?_⟩⟩
    · show (Str.empty ++ sI f).length ≤ sizeLine
      rw [e0, tl_len]
      exact big _ (by omega)
    refine ⟨_, rfl, ?_, _, rfl, .inr ⟨l, rfl, sI_log hl, _, rfl, ?_, ?_⟩⟩
    · show (Str.empty ++ sI f ++ "-").length ≤ sizeLine
      rw [e0, tl_len, TL.tl_append, List.length_append]
      exact big _ (by omega)
    · show (Str.empty ++ sI f ++ "-" ++ sI l).length ≤ sizeLine
      rw [e0, tl_len, TL.tl_append, TL.tl_append, List.length_append, List.length_append]
      exact big _ (by omega)
    · show Q (.str (Str.empty ++ sI f ++ "-" ++ sI l)) H
      rw [e0]
      unfold stT at q
      rw [if_neg e] at q
      exact q
def spCStre (C : Addr) : Sp := fun vs H Q _ => ∃ (p dx ra ha : Addr) (us : List Int), vs = [.ref p] ∧ CutAt H C p dx ra ha us ∧ us.length < 60 ∧
  ∀ H' l ts, Same H H' → H' l = some (.lst (ts.map V.ref)) → Paired (fun (t : Addr) (q : Int × Int) => H' t = some (.tup [.int q.1, .int q.2])) ts ((fs none us).zip (ls us)) → Q (.ref l) H'
theorem sc_Cut_stretches : FnScope ["self", "firsts", "row", "lasts"] ["self"] (defScope s_Cut_stretches) :=
  ⟨rfl, rfl, rfl, by decide +kernel, rfl, by decide +kernel, by decide +kernel⟩
-- [(0, 'self'), (1, 'firsts'), (2, 'row'), (3, 'lasts')]
theorem ok_cstre (F : Fun K "_stretches" "Cut._stretches" s_Cut_stretches f fd) (T : BlS mg) (S : CutT K C) : FnOk P w K mg base CX0 1 f fd ["self"] (spCStre C) := by
  refine F.ok sc_Cut_stretches (fun vs H Q E h => ?_) (fun cdv A outer s H vs Q E hr h => ?_)
  · obtain ⟨p, _, _, _, _, rfl, _⟩ := h
    rfl
  obtain ⟨p, dx, ra, ha, us, rfl, M, lt, q⟩ := h
  refine ⟨_, (pss_cons (ps_setLc (i := 1) (own := [("row", 2)]) (g := gName 2)  (by rfl) sc_Cut_stretches.nd rfl rfl (sw_true rfl rfl rfl (by decide +kernel)) (pi_list (pe_fld (pv 0) (by rfl))) (blkOk_by (N := ["self", "firsts", "row", "lasts"]) (sc := defScope s_Cut_stretches) (by decide +kernel)) (fun _ _ _ _ _ => pg_name (i := 2) sc_Cut_stretches.nd rfl (Or.inl rfl)) (fun _ _ _ _ _ => pts_one (pt_cmp (pc_dnotin (hu_of hr) (pe_op op_sub (pv 2) pe_int) (pe_fldK K (pv 0))))) (fun _ _ _ _ _ => (pv 2)))
    (pss_cons (ps_setLc (i := 3) (own := [("row", 2)]) (g := gName 2)  (by rfl) sc_Cut_stretches.nd rfl rfl (sw_true rfl rfl rfl (by decide +kernel)) (pi_list (pe_fld (pv 0) (by rfl))) (blkOk_by (N := ["self", "firsts", "row", "lasts"]) (sc := defScope s_Cut_stretches) (by decide +kernel)) (fun _ _ _ _ _ => pg_name (i := 2) sc_Cut_stretches.nd rfl (Or.inl rfl)) (fun _ _ _ _ _ => pts_one (pt_cmp (pc_dnotin (hu_of hr) (pe_op op_add (pv 2) pe_int) (pe_fldK K (pv 0))))) (fun _ _ _ _ _ => (pv 2)))
    (pss_one (ps_ret (pe_listZip (by rfl) (by rfl) T.list (by rfl) T.zip (pa_cons (pv 1) (pa_cons (pv 3) pa_nil))))))), ?_⟩
  refine ⟨_, rfl, p, C, dx, _, _, rfl, M.hp, S.cl, S.rows, CuF_ra _ _, ra, rfl, ⟨_, SqL.of M.hr⟩, fun D hD => ?_⟩
  refine lc_filtI (K := K) (a := ra) (ns := us) (fun x => decide (x - 1 ∉ us)) (by omega) hD (SqL.of M.hr) (fun i x G Y B hx sG h => ?_) (fun G sG kD => ?_)
  · have N := M.same sG
    refine ⟨rfl, ?_⟩
    refine ⟨_, rfl, _, _, rfl, rfl, _, rfl, p, C, dx, _, _, rfl, N.hp, S.cl, S.held, CuF_ha _ _, ha, _, rfl, DGet.k (k := Sum.inl (x - 1)) N.hh, _, rfl, ?_⟩
    refine tst (c := decide ((x - 1) ∉ us)) ?_ (fun h => ⟨_, rfl, h⟩) h
    rw [hld_in]
    simp
  have M := M.same sG
  refine ⟨_, rfl, p, C, dx, _, _, rfl, M.hp, S.cl, S.rows, CuF_ra _ _, ra, rfl, ⟨_, SqL.of M.hr⟩, fun D2 hD2 => ?_⟩
  have sG0 := sG
  refine lc_filtI (K := K) (a := ra) (ns := us) (fun x => decide (x + 1 ∉ us)) (by omega) hD2 (SqL.of M.hr) (fun i x G Y B hx sG h => ?_) (fun G2 sG kD2 => ?_)
  · have N := M.same sG
    refine ⟨rfl, ?_⟩
    refine ⟨_, rfl, _, _, rfl, rfl, _, rfl, p, C, dx, _, _, rfl, N.hp, S.cl, S.held, CuF_ha _ _, ha, _, rfl, DGet.k (k := Sum.inl (x + 1)) N.hh, _, rfl, ?_⟩
    refine tst (c := decide ((x + 1) ∉ us)) ?_ (fun h => ⟨_, rfl, h⟩) h
    rw [hld_in]
    simp
  refine ⟨_, rfl, _, rfl, D, D2, _, _, rfl, SqL.of (sG _ _ kD), SqL.of kD2, fun H' l ts s' l0 t0 nin k pr => ?_⟩
  rw [List.zip_map, fs_filter us M.up us [] rfl, ls_filter us M.up us [] rfl] at pr
  exact q H' l ts ((sG0.trans sG).trans s') k (paired_mapR (F := fun (t : Addr) (q : V × V) => H' t = some (.tup [q.1, q.2])) (g := Prod.map V.int V.int) pr)
/-- the text -/
def spCStr (C : Addr) : Sp := fun vs H Q _ => ∃ (p dx ra ha : Addr) (us : List Int), vs = [.ref p] ∧ CutAt H C p dx ra ha us ∧ us.length < 60 ∧ (∀ x ∈ us, SmI x) ∧ ∀ H', Same H H' → Q (.str (cutText us)) H'
theorem fs_mem : ∀ {r : List Int} {p : Option Int} {x : Int}, x ∈ fs p r → x ∈ r
  | [], _, _, h => h
  | y :: r, p, x, h => by
    unfold fs at h
    rcases List.mem_append.mp h with h | h
    · split at h
      · cases h
      · rw [List.mem_singleton.mp h]; exact List.mem_cons_self ..
    · exact List.mem_cons_of_mem _ (fs_mem h)
theorem ls_mem : ∀ {r : List Int} {x : Int}, x ∈ ls r → x ∈ r
  | [], _, h => h
  | y :: r, x, h => by
    unfold ls at h
    rcases List.mem_append.mp h with h | h
    · split at h
      · cases h
      · rw [List.mem_singleton.mp h]; exact List.mem_cons_self ..
    · exact List.mem_cons_of_mem _ (ls_mem h)
theorem fs_len : ∀ (r : List Int) (p : Option Int), (fs p r).length ≤ r.length
  | [], _ => Nat.le_refl _
  | y :: r, p => by
    unfold fs
    have := fs_len r (some y)
    rw [List.length_append, List.length_cons]
    have h : (if p = some (y - 1) then [] else [y]).length ≤ 1 := by split <;> simp
    omega
theorem sc_Cut__str : FnScope ["self", "first", "last"] ["self"] (defScope s_Cut__str) :=
  ⟨rfl, rfl, rfl, by decide +kernel, rfl, by decide +kernel, by decide +kernel⟩
-- [(0, 'self'), (1, 'first'), (2, 'last')]
theorem ok_cstr (F : Fun K "__str__" "Cut.__str__" s_Cut__str f fd) (T : BlS mg) (S : CutT K C) (C_stretch_text : Cal P w K mg base "_stretch_text" 1 ["first", "last"] spCST) (MS : MeQ P w K mg base C "_stretches" 1 ["self"] (spCStre C)) : FnOk P w K mg base CX0 2 f fd ["self"] (spCStr C) := by
  obtain ⟨fS, fdS, GS, bS, mS⟩ := MS
  refine F.ok sc_Cut__str (fun vs H Q E h => ?_) (fun cdv A outer s H vs Q E hr h => ?_)
  · obtain ⟨p, _, _, _, _, rfl, _⟩ := h
    rfl
  obtain ⟨p, dx, ra, ha, us, rfl, M, lt, sm, q⟩ := h
  have free := True.intro
  refine ⟨_, (pss_cons (ps_if (pt_cmpR op_eq (pe_callB call_len_seq (by rfl) T.len (by decide +kernel) (pa_cons (pe_fld (pv 0) (by rfl)) pa_nil)) pe_int (nomark _))
    (pss_one (ps_ret pe_str))
    pss_nil)
    (pss_one (ps_ret (pe_join pe_str (pe_lc (own := [("first", 1), ("last", 2)]) (g := gTup K 2 (gCons (gName 1) (gCons (gName 2) gNil))) (tt := tYes) (by rfl) sc_Cut__str.nd (pi_list (pe_meth0 (pv 0) S.cl mS GS hr bS .nil pass0)) (blkOk_by (N := ["self", "first", "last"]) (sc := defScope s_Cut__str) (by decide +kernel)) (fun _ _ _ _ _ => pg_tup (by rfl) (pgs_cons (pg_name (i := 1) sc_Cut__str.nd rfl (Or.inl rfl)) (pgs_cons (pg_name (i := 2) sc_Cut__str.nd rfl (Or.inl rfl)) pgs_nil))) (fun _ _ _ _ _ => pts_nil) (fun _ _ _ _ _ => (pe_cal C_stretch_text free (hr.mono (by decide)) (pa_cons (pv 1) (pa_cons (pv 2) pa_nil))))))))), ?_⟩
  refine ⟨_, rfl, p, C, dx, _, _, rfl, M.hp, S.cl, S.rows, CuF_ra _ _, ra, _, rfl, .inl (SqL.of M.hr), rfl, _, rfl, ?_⟩
  refine ite2 (fun c => ?_) (fun c => ?_)
  · have e : us = [] := by
      have := V.int.inj (of_decide_eq_true c)
      rw [List.length_map] at this
      exact List.eq_nil_of_length_eq_zero (by omega)
    have := q H (Same.refl H)
    unfold cutText at this
    rw [if_pos e] at this
    exact this
  refine ⟨⟨_, rfl⟩, _, rfl, p, dx, _, rfl, M.hp, CuF_no _ _ (by decide +kernel) (by decide +kernel), ?_⟩
  refine ⟨p, dx, ra, ha, us, rfl, M, lt, fun H1 l ts s1 kl pr => ?_⟩
  refine ⟨l, rfl, ⟨_, SqL.of kl⟩, fun D hD => ?_⟩
  have lz : ((fs none us).zip (ls us)).length < 60 := by
    rw [List.length_zip]
    have := fs_len us none
    omega
  have mz : ∀ q ∈ (fs none us).zip (ls us), SmI q.1 ∧ SmI q.2 := fun q hq => ⟨sm _ (fs_mem (List.of_mem_zip hq).1), sm _ (ls_mem (List.of_mem_zip hq).2)⟩
  have lt2 : ts.length = ((fs none us).zip (ls us)).length := Paired.length pr
  have em : ts.map V.ref = (ts.zip ((fs none us).zip (ls us))).map fun k => V.ref k.1 := by
    have := (List.map_fst_zip (l₁ := ts) (l₂ := (fs none us).zip (ls us)) (by omega))
    rw [← this, List.map_map]
    rw [this]
    rfl
  have em2 : (ts.zip ((fs none us).zip (ls us))).map (fun k => V.str (stT k.2.1 k.2.2)) = (((fs none us).zip (ls us)).map fun q => stT q.1 q.2).map V.str := by
    have := (List.map_snd_zip (l₁ := ts) (l₂ := (fs none us).zip (ls us)) (by omega))
    rw [List.map_map, ← this, List.map_map]
    rw [this]
    rfl
  have prz : ∀ {i : Nat} {k : Addr × Int × Int}, (ts.zip ((fs none us).zip (ls us)))[i]? = some k → H1 k.1 = some (.tup [.int k.2.1, .int k.2.2]) ∧ k.2 ∈ (fs none us).zip (ls us) := fun {i k} h => by
    rw [List.getElem?_zip_eq_some] at h
    obtain ⟨y, e1, e2⟩ := LiI.paired_get pr h.1
    rw [e1] at h
    cases h.2
    exact ⟨e2, List.mem_of_getElem? e1⟩
  rw [em] at kl
  refine lc_mapL (ks := ts.zip ((fs none us).zip (ls us))) (fun k => V.ref k.1) (fun _ => true) (fun k => V.str (stT k.2.1 k.2.2)) (by rw [List.length_zip]; omega) hD (SqL.of kl) (fun i k G Y B ex sG yes no => ?_) (fun G sG kD => ?_)
  · obtain ⟨k1, k2⟩ := prz ex
    refine ⟨k.1, _, rfl, SqT.of (sG _ _ k1), rfl, _, _, rfl, _, _, rfl, rfl, rfl, ?_⟩
    refine yes_ite ?_
    exact ⟨_, rfl, _, rfl, _, _, rfl, (mz _ k2).1, (mz _ k2).2, yes rfl G (Same.refl G)⟩
  rw [filter_tt, em2] at kD
  refine ⟨" ", D, _, rfl, rfl, .inl (SqL.of kD), ?_, ?_⟩
  · rw [List.length_map, List.map_map]
    have hb : ∀ L : List (Int × Int), (∀ q ∈ L, SmI q.1 ∧ SmI q.2) → (L.map (Str.length ∘ fun q => stT q.1 q.2)).sum ≤ 19 * L.length := fun L => by
      induction L with
      | nil => intro _; exact Nat.le_refl _
      | cons q L ih =>
        intro h
        have h1 := h q (List.mem_cons_self ..)
        have h2 := stT_len h1.1 h1.2
        have h3 := ih fun y hy => h y (List.mem_cons_of_mem _ hy)
        rw [List.map_cons, List.sum_cons, List.length_cons]
        show (stT q.1 q.2).length + _ ≤ _
        omega
    have := hb _ mz
    have e1 : (" " : Str).length = 1 := rfl
    rw [e1]
    refine Nat.le_trans (Nat.add_le_add this (Nat.le_refl _)) (by omega)
  · have := q G (s1.trans sG)
    unfold cutText at this
    rw [if_neg (fun e => c (by rw [e]; rfl))] at this
    exact this
end

end G0
namespace G0
open PySem PySem.Spec PyProof.Rows L2
set_option maxHeartbeats 4000000
set_option pp.deepTerms.threshold 6
section
variable {P : Program} {w : World} {K : PySem.W.Frag} {mg : Str → Option Value} {base : Heap}
/-! ### _law_same -/
inductive Sm1 : V → Prop
  | bl (b : Bool) : Sm1 (.bl b)
  | int (i : Int) : Sm1 (.int i)
  | str (z : Str) : Sm1 (.str z)
def spSame1 : Sp := fun vs H Q _ => ∃ x, vs = [x, x] ∧ Sm1 x ∧ Q (.bl true) H
def spSame2 : Sp := fun vs H Q _ => ∃ (a b : Addr) (ns : List Int), vs = [.ref a, .ref b] ∧ H a = some (.lst (ns.map V.int)) ∧ H b = some (.lst (ns.map V.int)) ∧ ns.length < 1000 ∧ Q (.bl true) H
theorem sc_law_same : FnScope ["found", "due", "k"] ["found", "due"] (defScope s_law_same) :=
  ⟨rfl, rfl, rfl, by decide +kernel, rfl, by decide +kernel, by decide +kernel⟩
theorem ok_same1 (F : Fn K mg "_law_same" s_law_same) (T : Bl mg) : Cal P w K mg base "_law_same" 1 ["found", "due"] spSame1 := by
  have C_same := (cal_no (P := P) (w := w) (base := base) F (ps := ["found", "due"]) (fun _ _ _ _ _ _ us hl => match us, hl with | [_, _], _ => rfl) )
  refine cal_of F sc_law_same
    (fun _ _ _ _ _ _ us hl => match us, hl with | [_, _], _ => rfl) ?_ ?_
  · rintro vs H Q E ⟨x, rfl, _⟩
    rfl
  rintro f cdv A outer s H vs Q E free hr ⟨x, rfl, sm, q⟩
  refine ⟨_, (pss_cons (ps_if (pt_cmpR op_isN (pv 1) pe_non (nomark _))
    (pss_one (ps_ret (pe_cmpR op_isN (pv 0) pe_non (nomark _))))
    pss_nil)
    (pss_cons (ps_if (pt_val (pe_callB call_isi (by rfl) T.isinstance (by decide +kernel) (pa_cons (pv 1) (pa_cons (pe_bltn (v := .ty "bool") (by rfl) T.bool (by decide +kernel) rfl) pa_nil))))
    (pss_one (ps_ret (pe_and (pe_callB call_isi (by rfl) T.isinstance (by decide +kernel) (pa_cons (pv 0) (pa_cons (pe_bltn (v := .ty "bool") (by rfl) T.bool (by decide +kernel) rfl) pa_nil))) (pe_one (pe_cmpR op_eq (pv 0) (pv 1) (nomark _))))))
    pss_nil)
    (pss_cons (ps_if (pt_val (pe_callB call_isi (by rfl) T.isinstance (by decide +kernel) (pa_cons (pv 1) (pa_cons (pe_bltn (v := .ty "int") (by rfl) T.int (by decide +kernel) rfl) pa_nil))))
    (pss_cons (ps_if (PW.pt (pw_or (pt_val (pe_callB call_isi (by rfl) T.isinstance (by decide +kernel) (pa_cons (pv 0) (pa_cons (pe_bltn (v := .ty "bool") (by rfl) T.bool (by decide +kernel) rfl) pa_nil)))) (pw_or1 (pt_not (pt_val (pe_callB call_isi (by rfl) T.isinstance (by decide +kernel) (pa_cons (pv 0) (pa_cons (pe_bltn (v := .ty "int") (by rfl) T.int (by decide +kernel) rfl) pa_nil))))))))
    (pss_one (ps_ret pe_bl))
    pss_nil)
    (pss_one (ps_ret (pe_cmpR op_eq (pv 0) (pv 1) (nomark _)))))
    pss_nil)
    (pss_cons (ps_if (pt_val (pe_callB call_isi (by rfl) T.isinstance (by decide +kernel) (pa_cons (pv 1) (pa_cons (pe_bltn (v := .ty "str") (by rfl) T.str (by decide +kernel) rfl) pa_nil))))
    (pss_one (ps_ret (pe_and (pe_callB call_isi (by rfl) T.isinstance (by decide +kernel) (pa_cons (pv 0) (pa_cons (pe_bltn (v := .ty "str") (by rfl) T.str (by decide +kernel) rfl) pa_nil))) (pe_one (pe_cmpR op_eq (pv 0) (pv 1) (nomark _))))))
    pss_nil)
    (pss_cons (ps_if (PW.pt (pw_and (pt_val (pe_callB call_isi (by rfl) T.isinstance (by decide +kernel) (pa_cons (pv 1) (pa_cons (pe_bltn (v := .ty "tuple") (by rfl) T.tuple (by decide +kernel) rfl) pa_nil)))) (pw_and1 (pt_not (pt_val (pe_callB call_isi (by rfl) T.isinstance (by decide +kernel) (pa_cons (pv 0) (pa_cons (pe_bltn (v := .ty "tuple") (by rfl) T.tuple (by decide +kernel) rfl) pa_nil))))))))
    (pss_one (ps_ret pe_bl))
    pss_nil)
    (pss_cons (ps_if (PW.pt (pw_and (pt_val (pe_callB call_isi (by rfl) T.isinstance (by decide +kernel) (pa_cons (pv 1) (pa_cons (pe_bltn (v := .ty "list") (by rfl) T.list (by decide +kernel) rfl) pa_nil)))) (pw_and1 (pt_not (pt_val (pe_callB call_isi (by rfl) T.isinstance (by decide +kernel) (pa_cons (pv 0) (pa_cons (pe_bltn (v := .ty "list") (by rfl) T.list (by decide +kernel) rfl) pa_nil))))))))
    (pss_one (ps_ret pe_bl))
    pss_nil)
    (pss_cons (ps_if (pt_cmpR op_ne (pe_callB call_len_seq (by rfl) T.len (by decide +kernel) (pa_cons (pv 0) pa_nil)) (pe_callB call_len_seq (by rfl) T.len (by decide +kernel) (pa_cons (pv 1) pa_nil)) (nomark _))
    (pss_one (ps_ret pe_bl))
    pss_nil)
    (pss_cons (ps_for PassesOwn.never rfl (pi_range1 (by rfl) T.range (pa_cons (pe_callB call_len_seq (by rfl) T.len (by decide +kernel) (pa_cons (pv 1) pa_nil)) pa_nil)) (pg_name (i := 2) sc_law_same.nd rfl (Or.inl rfl))
    (pss_one (ps_if (pt_not (pt_val (pe_cal C_same free hr (pa_cons (pe_ix ix_seq (pv 0) (pv 2) (fun _ _ => rfl)) (pa_cons (pe_ix ix_seq (pv 1) (pv 2) (fun _ _ => rfl)) pa_nil)))))
    (pss_one (ps_ret pe_bl))
    pss_nil)))
    (pss_one (ps_ret pe_bl)))))))))), ?_⟩
  cases sm with
  | bl b =>
    refine ⟨_, rfl, rfl, _, rfl, iteF' rfl ?_⟩
    refine ⟨_, rfl, _, .ty "bool", _, _, _, rfl, .ty _, .base (.bl b), kit_ty (r := true) (by decide +kernel), _, rfl, iteT' rfl ?_⟩
    refine ⟨_, rfl, _, .ty "bool", _, _, _, rfl, .ty _, .base (.bl b), kit_ty (r := true) (by decide +kernel), _, rfl, iteT' rfl ?_⟩
    refine ⟨_, rfl, _, rfl, rfl, ?_⟩
    rw [decide_eq_true rfl]
    exact q
  | int i =>
    refine ⟨_, rfl, rfl, _, rfl, iteF' rfl ?_⟩
    refine ⟨_, rfl, _, .ty "bool", _, _, _, rfl, .ty _, .base (.int i), kit_ty (r := false) (by decide +kernel), _, rfl, iteF' rfl ?_⟩
    refine ⟨_, rfl, _, .ty "int", _, _, _, rfl, .ty _, .base (.int i), kit_ty (r := true) (by decide +kernel), _, rfl, iteT' rfl ?_⟩
    refine ⟨_, rfl, _, .ty "bool", _, _, _, rfl, .ty _, .base (.int i), kit_ty (r := false) (by decide +kernel), _, rfl, iteF' rfl ?_⟩
    refine ⟨_, rfl, _, .ty "int", _, _, _, rfl, .ty _, .base (.int i), kit_ty (r := true) (by decide +kernel), _, rfl, iteF' rfl ?_⟩
    refine ⟨_, rfl, _, rfl, rfl, ?_⟩
    rw [decide_eq_true rfl]
    exact q
  | str z =>
    refine ⟨_, rfl, rfl, _, rfl, iteF' rfl ?_⟩
    refine ⟨_, rfl, _, .ty "bool", _, _, _, rfl, .ty _, .base (.str z), kit_ty (r := false) (by decide +kernel), _, rfl, iteF' rfl ?_⟩
    refine ⟨_, rfl, _, .ty "int", _, _, _, rfl, .ty _, .base (.str z), kit_ty (r := false) (by decide +kernel), _, rfl, iteF' rfl ?_⟩
    refine ⟨_, rfl, _, .ty "str", _, _, _, rfl, .ty _, .base (.str z), kit_ty (r := true) (by decide +kernel), _, rfl, iteT' rfl ?_⟩
    refine ⟨_, rfl, _, .ty "str", _, _, _, rfl, .ty _, .base (.str z), kit_ty (r := true) (by decide +kernel), _, rfl, iteT' rfl ?_⟩
    refine ⟨_, rfl, _, rfl, rfl, ?_⟩
    rw [decide_eq_true rfl]
    exact q
theorem ok_same2 (F : Fn K mg "_law_same" s_law_same) (T : Bl mg) (C_same : Cal P w K mg base "_law_same" 1 ["found", "due"] spSame1) : Cal P w K mg base "_law_same" 2 ["found", "due"] spSame2 := by
  refine cal_of F sc_law_same
    (fun _ _ _ _ _ _ us hl => match us, hl with | [_, _], _ => rfl) ?_ ?_
  · rintro vs H Q E ⟨a, b, ns, rfl, _⟩
    rfl
  rintro f cdv A outer s H vs Q E free hr ⟨a, b, ns, rfl, ha, hb, lt, q⟩
  refine ⟨_, (pss_cons (ps_if (pt_cmpR op_isN (pv 1) pe_non (nomark _))
    (pss_one (ps_ret (pe_cmpR op_isN (pv 0) pe_non (nomark _))))
    pss_nil)
    (pss_cons (ps_if (pt_val (pe_callB call_isi (by rfl) T.isinstance (by decide +kernel) (pa_cons (pv 1) (pa_cons (pe_bltn (v := .ty "bool") (by rfl) T.bool (by decide +kernel) rfl) pa_nil))))
    (pss_one (ps_ret (pe_and (pe_callB call_isi (by rfl) T.isinstance (by decide +kernel) (pa_cons (pv 0) (pa_cons (pe_bltn (v := .ty "bool") (by rfl) T.bool (by decide +kernel) rfl) pa_nil))) (pe_one (pe_cmpR op_eq (pv 0) (pv 1) (nomark _))))))
    pss_nil)
    (pss_cons (ps_if (pt_val (pe_callB call_isi (by rfl) T.isinstance (by decide +kernel) (pa_cons (pv 1) (pa_cons (pe_bltn (v := .ty "int") (by rfl) T.int (by decide +kernel) rfl) pa_nil))))
    (pss_cons (ps_if (PW.pt (pw_or (pt_val (pe_callB call_isi (by rfl) T.isinstance (by decide +kernel) (pa_cons (pv 0) (pa_cons (pe_bltn (v := .ty "bool") (by rfl) T.bool (by decide +kernel) rfl) pa_nil)))) (pw_or1 (pt_not (pt_val (pe_callB call_isi (by rfl) T.isinstance (by decide +kernel) (pa_cons (pv 0) (pa_cons (pe_bltn (v := .ty "int") (by rfl) T.int (by decide +kernel) rfl) pa_nil))))))))
    (pss_one (ps_ret pe_bl))
    pss_nil)
    (pss_one (ps_ret (pe_cmpR op_eq (pv 0) (pv 1) (nomark _)))))
    pss_nil)
    (pss_cons (ps_if (pt_val (pe_callB call_isi (by rfl) T.isinstance (by decide +kernel) (pa_cons (pv 1) (pa_cons (pe_bltn (v := .ty "str") (by rfl) T.str (by decide +kernel) rfl) pa_nil))))
    (pss_one (ps_ret (pe_and (pe_callB call_isi (by rfl) T.isinstance (by decide +kernel) (pa_cons (pv 0) (pa_cons (pe_bltn (v := .ty "str") (by rfl) T.str (by decide +kernel) rfl) pa_nil))) (pe_one (pe_cmpR op_eq (pv 0) (pv 1) (nomark _))))))
    pss_nil)
    (pss_cons (ps_if (PW.pt (pw_and (pt_val (pe_callB call_isi (by rfl) T.isinstance (by decide +kernel) (pa_cons (pv 1) (pa_cons (pe_bltn (v := .ty "tuple") (by rfl) T.tuple (by decide +kernel) rfl) pa_nil)))) (pw_and1 (pt_not (pt_val (pe_callB call_isi (by rfl) T.isinstance (by decide +kernel) (pa_cons (pv 0) (pa_cons (pe_bltn (v := .ty "tuple") (by rfl) T.tuple (by decide +kernel) rfl) pa_nil))))))))
    (pss_one (ps_ret pe_bl))
    pss_nil)
    (pss_cons (ps_if (PW.pt (pw_and (pt_val (pe_callB call_isi (by rfl) T.isinstance (by decide +kernel) (pa_cons (pv 1) (pa_cons (pe_bltn (v := .ty "list") (by rfl) T.list (by decide +kernel) rfl) pa_nil)))) (pw_and1 (pt_not (pt_val (pe_callB call_isi (by rfl) T.isinstance (by decide +kernel) (pa_cons (pv 0) (pa_cons (pe_bltn (v := .ty "list") (by rfl) T.list (by decide +kernel) rfl) pa_nil))))))))
    (pss_one (ps_ret pe_bl))
    pss_nil)
    (pss_cons (ps_if (pt_cmpR op_ne (pe_callB call_len_seq (by rfl) T.len (by decide +kernel) (pa_cons (pv 0) pa_nil)) (pe_callB call_len_seq (by rfl) T.len (by decide +kernel) (pa_cons (pv 1) pa_nil)) (nomark _))
    (pss_one (ps_ret pe_bl))
    pss_nil)
    (pss_cons (ps_for PassesOwn.never rfl (pi_range1 (by rfl) T.range (pa_cons (pe_callB call_len_seq (by rfl) T.len (by decide +kernel) (pa_cons (pv 1) pa_nil)) pa_nil)) (pg_name (i := 2) sc_law_same.nd rfl (Or.inl rfl))
    (pss_one (ps_if (pt_not (pt_val (pe_cal C_same free hr (pa_cons (pe_ix ix_seq (pv 0) (pv 2) (fun _ _ => rfl)) (pa_cons (pe_ix ix_seq (pv 1) (pv 2) (fun _ _ => rfl)) pa_nil)))))
    (pss_one (ps_ret pe_bl))
    pss_nil)))
    (pss_one (ps_ret pe_bl)))))))))), ?_⟩
  refine ⟨_, rfl, rfl, _, rfl, iteF' rfl ?_⟩
  refine ⟨_, rfl, _, .ty "bool", _, _, _, rfl, .ty _, .base (.lst hb), kit_ty (r := false) (by decide +kernel), _, rfl, iteF' rfl ?_⟩
  refine ⟨_, rfl, _, .ty "int", _, _, _, rfl, .ty _, .base (.lst hb), kit_ty (r := false) (by decide +kernel), _, rfl, iteF' rfl ?_⟩
  refine ⟨_, rfl, _, .ty "str", _, _, _, rfl, .ty _, .base (.lst hb), kit_ty (r := false) (by decide +kernel), _, rfl, iteF' rfl ?_⟩
  refine ⟨_, rfl, _, .ty "tuple", _, _, _, rfl, .ty _, .base (.lst hb), kit_ty (r := false) (by decide +kernel), _, rfl, iteF' rfl ?_⟩
  refine ⟨_, rfl, _, .ty "list", _, _, _, rfl, .ty _, .base (.lst hb), kit_ty (r := true) (by decide +kernel), _, rfl, iteT' rfl ?_⟩
  refine ⟨_, rfl, _, .ty "list", _, _, _, rfl, .ty _, .base (.lst ha), kit_ty (r := true) (by decide +kernel), _, rfl, iteF' rfl ?_⟩
  refine ⟨_, rfl, a, _, rfl, .inl (SqL.of ha), _, rfl, b, _, rfl, .inl (SqL.of hb), rfl, _, (by rw [decide_eq_true rfl]; rfl), iteF' rfl ?_⟩
  refine ⟨_, rfl, b, _, rfl, .inl (SqL.of hb), _, rfl, by omega, by rw [List.length_map]; omega, ?_⟩
  rw [List.length_map]
  refine for_range (lo := 0) (n := ns.length) (fun i σ G => (∃ k : Option V, σ = [some (V.ref a), some (V.ref b), k]) ∧ G = H) ⟨⟨_, rfl⟩, rfl⟩ ?_ ?_
  · rintro i σ G hi ⟨⟨k, rfl⟩, rfl⟩
    have ei : (0 : Int) + (i : Int) = ((i : Nat) : Int) := by omega
    have a1 : atI (ns.map V.int) (0 + (i : Int)) = some (.int ns[i]) := by rw [ei]; exact atI_nat (by rw [List.getElem?_map, List.getElem?_eq_getElem hi]; rfl)
    refine ⟨_, rfl, _, rfl, .inl ⟨a, _, _, _, rfl, rfl, SqL.of ha, a1, _, rfl, _, rfl, .inl ⟨b, _, _, _, rfl, rfl, SqL.of hb, a1, ?_⟩⟩⟩
    refine ⟨_, rfl, .int _, ?_⟩
    exact ⟨_, rfl, iteF' rfl ⟨⟨_, rfl⟩, rfl⟩⟩
  · rintro σ G ⟨⟨k, rfl⟩, rfl⟩
    exact q
/-! ### _law_row_list -/
def spRowL : Sp := fun vs H Q _ => ∃ (p c : Addr) (n : Nat), vs = [.ref p] ∧ FeedAt n c H p ∧ n < 100000 ∧
  ∀ (l : Addr) (ns : List Int) (H' : Hp), H l = none → H' l = some (.lst (ns.map V.int)) → ns.length ≤ 11 → (∀ x ∈ ns, 0 ≤ x ∧ x < 1000000) → Chg p H H' → FeedAt (n + 13) c H' p → Q (.ref l) H'
theorem sc_law_row_list : FnScope ["feed", "bound", "k"] ["feed"] (defScope s_law_row_list) :=
  ⟨rfl, rfl, rfl, by decide +kernel, rfl, by decide +kernel, by decide +kernel⟩
-- [(0, 'feed'), (1, 'bound'), (2, 'k')]
theorem ok_rowl (F : Fn K mg "_law_row_list" s_law_row_list) (T : Bl mg) (C_draw : Cal P w K mg base "_law_draw" 1 ["feed", "many"] spD) : Cal P w K mg base "_law_row_list" 2 ["feed"] spRowL := by
  refine cal_of F sc_law_row_list
    (fun _ _ _ _ _ _ us hl => match us, hl with | [_], _ => rfl) ?_ ?_
  · rintro vs H Q E ⟨p, c, n, rfl, _⟩
    rfl
  rintro f cdv A outer s H vs Q E free hr ⟨p, c, n, rfl, hP, hn, q⟩
  refine ⟨_, (pss_cons (ps_set (i := 1) sc_law_row_list.nd rfl (Or.inr rfl) (pe_ix ix_list (pe_lst (pa_cons pe_int (pa_cons pe_int (pa_cons (pe_op op_pow pe_int pe_int) pa_nil)))) (pe_cal C_draw free (hr.mono (by decide)) (pa_cons (pv 0) (pa_cons pe_int pa_nil))) (fun _ _ => rfl)))
    (pss_one (ps_ret (pe_lc (own := [("k", 2)]) (g := gName 2) (tt := tYes) (by rfl) sc_law_row_list.nd (pi_range1 (by rfl) T.range (pa_cons (pe_cal C_draw free (hr.mono (by decide)) (pa_cons (pv 0) (pa_cons pe_int pa_nil))) pa_nil)) (blkOk_by (N := ["feed", "bound", "k"]) (sc := defScope s_law_row_list) (by decide +kernel)) (fun _ _ _ _ _ => pg_name (i := 2) sc_law_row_list.nd rfl (Or.inl rfl)) (fun _ _ _ _ _ => pts_nil) (fun _ _ _ _ _ => (pe_cal C_draw free (hr.mono (by decide)) (pa_cons (pv 0) (pa_cons (pv 1) pa_nil)))))))), ?_⟩
  have t6 : (10 : Int) ^ (Int.toNat 6) = 1000000 := rfl
  refine ⟨_, _, rfl, rfl, ⟨by decide, by decide, by decide⟩, (by show 3 ≤ sizeLine; decide), fun l0 hl0 => ?_⟩
  refine ⟨_, rfl, p, c, 3, n, rfl, by decide, by decide, hP.new hl0, by omega, fun d H1 d0 d1 c1 P1 => ?_⟩
  have pl : p ≠ l0 := hP.neD hl0
  have k0 : H1 l0 = some (.lst [.int 4, .int 16, .int ((10 : Int) ^ (Int.toNat 6))]) := c1 _ _ pl.symm upd_same
  obtain ⟨m, hm, m0, mb⟩ : ∃ m : Int, atI [V.int 4, .int 16, .int ((10 : Int) ^ (Int.toNat 6))] d = some (.int m) ∧ 0 < m ∧ m ≤ 1000000 := by
    have dd : d = 0 ∨ d = 1 ∨ d = 2 := by omega
    rcases dd with rfl | rfl | rfl
    · exact ⟨4, rfl, by decide, by decide⟩
    · exact ⟨16, rfl, by decide, by decide⟩
    · exact ⟨1000000, rfl, by decide, by decide⟩
  refine ⟨l0, _, _, _, rfl, rfl, SqL.of k0, hm, ?_⟩
  refine ⟨_, rfl, p, c, 12, n + 1, rfl, by decide, by decide, P1, by omega, fun t H2 t0 t1 c2 P2 => ?_⟩
  refine ⟨_, rfl, by omega, by omega, fun D hD => ?_⟩
  have C2 : Chg p H H2 := (Chg.same (same_upd hl0)).trans (c1.trans c2)
  have pD : p ≠ D := P2.neD hD
  have D0 : H D = none := C2.back hD pD.symm
  refine lc_range (lo := 0) (n := t.toNat) (fun i G => ∃ acc : List Int, G D = some (.lst (acc.map V.int)) ∧ acc.length = i ∧ (∀ x ∈ acc, 0 ≤ x ∧ x < 1000000) ∧ FeedAt (n + 2 + i) c G p ∧ Chg p H G)
    ⟨[], upd_same, rfl, (fun x hx => nomatch hx), P2.new hD, C2.trans (Chg.same (same_upd hD))⟩ ?_ ?_
  · rintro i G hi ⟨acc, kD, la, low, PG, cG⟩
    refine ⟨rfl, yes_ite ?_⟩
    refine ⟨_, rfl, _, rfl, p, c, m, n + 2 + i, rfl, m0, Nat.lt_of_lt_of_le (show m.natAbs < 2000000 by omega) (by decide), PG, by omega, fun x G1 x0 x1 cx Px => ?_⟩
    have kD1 := cx _ _ pD.symm kD
    refine ⟨_, kD1, by rw [List.length_map]; exact Nat.lt_of_lt_of_le (show acc.length < 100 by omega) (by decide), acc ++ [x], ?_, by rw [List.length_append, List.length_singleton]; omega, fun y hy => ?_, (Px.ne pD rfl).mono (by omega), ?_⟩
    · rw [upd_same, List.map_append]; rfl
    · rcases List.mem_append.mp hy with h | h
      · exact low y h
      · rw [List.mem_singleton.mp h]; exact ⟨x0, by omega⟩
    · exact (cG.trans cx).mut D0
  · rintro G ⟨acc, kD, la, low, PG, cG⟩
    exact q D acc G D0 kD (by omega) low cG (PG.mono (by omega))
/-! ### _law_written -/
def spWrit (K : PySem.W.Frag) : Sp := fun vs H Q _ => ∃ (b : Addr) (us : List Int), vs = [.ref b] ∧ SqL K H b (us.map V.int) ∧ us.length < 60 ∧ us.Pairwise (· < ·) ∧ (∀ x ∈ us, SmI x) ∧ Q (.str (cutText us)) H
theorem flat_int : ∀ us : List Int, (us.map V.int).all flatV = true
  | [] => rfl
  | x :: us => by rw [List.map_cons, List.all_cons, flat_int us]; rfl
theorem sc_law_written : FnScope ["due", "told", "k"] ["due"] (defScope s_law_written) :=
  ⟨rfl, rfl, rfl, by decide +kernel, rfl, by decide +kernel, by decide +kernel⟩
-- [(0, 'due'), (1, 'told'), (2, 'k')]
theorem ok_writ (F : Fn K mg "_law_written" s_law_written) (T : Bl mg) : Cal P w K mg base "_law_written" 1 ["due"] (spWrit K) := by
  refine cal_of F sc_law_written
    (fun _ _ _ _ _ _ us hl => match us, hl with | [_], _ => rfl) ?_ ?_
  · rintro vs H Q E ⟨b, us, rfl, _⟩
    rfl
  rintro f cdv A outer s H vs Q E free hr ⟨b, us, rfl, hb, lt, up, sm, q⟩
  refine ⟨_, (pss_cons (ps_set (i := 1) sc_law_written.nd rfl (Or.inl rfl) pe_str)
    (pss_cons (ps_for PassesOwn.never rfl (pi_list (pv 0)) (pg_name (i := 2) sc_law_written.nd rfl (Or.inl rfl))
    (pss_one (ps_if (pt_cmpR u_notin (pe_op op_sub (pv 2) pe_int) (pv 0) (by rfl))
    (pss_cons (ps_if (pt_cmpR op_ne (pv 1) pe_str (nomark _))
    (pss_one (ps_set (i := 1) sc_law_written.nd rfl (Or.inl rfl) (pe_op op_add_str (pv 1) pe_str)))
    pss_nil)
    (pss_one (ps_set (i := 1) sc_law_written.nd rfl (Or.inl rfl) (pe_op op_add_str (pv 1) (pe_callTy call_str_int (by rfl) T.str (by decide +kernel) (pa_cons (pv 2) pa_nil))))))
    (pss_one (ps_if (pt_cmpR u_notin (pe_op op_add (pv 2) pe_int) (pv 0) (by rfl))
    (pss_one (ps_set (i := 1) sc_law_written.nd rfl (Or.inl rfl) (pe_op op_add_str (pe_op op_add_str (pv 1) pe_str) (pe_callTy call_str_int (by rfl) T.str (by decide +kernel) (pa_cons (pv 2) pa_nil)))))
    pss_nil)))))
    (pss_cons (ps_if (pt_cmpR op_eq (pv 1) pe_str (nomark _))
    (pss_one (ps_ret pe_str))
    pss_nil)
    (pss_one (ps_ret (pv 1)))))), ?_⟩
  refine ⟨_, rfl, b, rfl, ⟨_, hb⟩, ?_⟩
  refine for_list (xs := us.map V.int) (fun i σ G => (∃ (told : Str) (k : Option V), σ = [some (V.ref b), some (.str told), k] ∧ TL.tl told ++ lw (us.take i).getLast? (us.drop i) = lw none us ∧ (TL.tl told = [] ↔ i = 0)) ∧ G = H) ⟨⟨"", none, rfl, rfl, ⟨fun _ => rfl, fun _ => rfl⟩⟩, rfl⟩ (fun i σ G _ h => h.2 ▸ hb) ?_ ?_
  · rintro i x σ G hx ⟨⟨told, k, rfl, e1, e2⟩, rfl⟩
    obtain ⟨k0, hk, rfl⟩ := vals_atA hx
    have li := (List.getElem?_eq_some_iff.mp hk).1
    have ek := (List.getElem?_eq_some_iff.mp hk).2
    have eu : us = us.take i ++ k0 :: us.drop (i + 1) := by
      rw [← ek, List.getElem_cons_drop, List.take_append_drop]
    have pv := prev_iff up eu
    have nx := next_iff up eu
    have sk := sm k0 (List.mem_of_getElem? hk)
    have gl : (us.take (i + 1)).getLast? = some k0 := by
      rw [List.take_succ, hk]
      simp
    have dr : us.drop i = k0 :: us.drop (i + 1) := by rw [← ek, List.getElem_cons_drop]
    have ll := lw_len us none sm
    have lt' : (TL.tl told).length ≤ 600 := by
      have := congrArg List.length e1
      rw [List.length_append] at this
      omega
    have lk := sI_len sk
    have pk := sI_pos sk
    have big : ∀ n : Nat, n ≤ 1000 → n ≤ sizeLine := fun n h => Nat.le_trans h (by decide)
    have l1 : (TL.tl (" " : Str)).length = 1 := rfl
    have l2 : (TL.tl ("-" : Str)).length = 1 := rfl
    rw [dr] at e1
    rw [lw_cons] at e1
    have p0 : (us.take i).getLast? = none ↔ i = 0 := by
      rw [List.getLast?_eq_none_iff]
      constructor
      · intro z
        have := congrArg List.length z
        rw [List.length_take, List.length_nil] at this
        omega
      · intro z
        rw [z]; rfl
    refine ⟨_, rfl, _, _, rfl, rfl, _, rfl, .inl ⟨b, _, rfl, .inl hb, rfl, flat_int us, _, rfl, ?_⟩⟩
    by_cases c : k0 - 1 ∈ us
    · refine iteF' (by show (!inV (.int (k0 - 1)) (us.map V.int)) = false; rw [inV_ints]; simp [c]) ?_
      rw [if_pos (pv.mp c)] at e1
      have i0 : i ≠ 0 := fun z => by
        have := pv.mp c
        rw [p0.mpr z] at this
        cases this
      have n0 : TL.tl told ≠ [] := fun z => i0 (e2.mp z)
      refine ⟨_, rfl, _, _, rfl, rfl, _, rfl, .inl ⟨b, _, rfl, .inl hb, rfl, flat_int us, _, rfl, ?_⟩⟩
      by_cases c2 : k0 + 1 ∈ us
      · refine iteF' (by show (!inV (.int (k0 + 1)) (us.map V.int)) = false; rw [inV_ints]; simp [c2]) ?_
        rw [if_pos (nx.mp c2), List.nil_append] at e1
        exact ⟨⟨told, _, rfl, by rw [gl]; exact e1, by simp [n0]⟩, rfl⟩
      · refine iteT' (by show (!inV (.int (k0 + 1)) (us.map V.int)) = true; rw [inV_ints]; simp [c2]) ?_
        rw [if_neg (fun z => c2 (nx.mpr z))] at e1
        refine ⟨_, rfl, _, _, rfl, rfl, big _ (by rw [tl_len, tl_len]; omega), _, rfl, k0, rfl, sI_log sk, _, _, rfl, rfl, big _ (by show (told ++ "-").length + (sI k0).length ≤ 1000; rw [tl_len, tl_len, TL.tl_append, List.length_append]; omega), ?_⟩
        refine ⟨⟨told ++ "-" ++ sI k0, _, rfl, ?_, ?_⟩, rfl⟩
        · rw [gl, ← e1, TL.tl_append, TL.tl_append]
          show TL.tl told ++ [45] ++ _ ++ _ = _
          simp only [List.append_assoc, List.cons_append, List.nil_append]
        · rw [TL.tl_append, TL.tl_append]
          refine ⟨fun z => ?_, fun z => by omega⟩
          exact (pk (List.append_eq_nil_iff.mp z).2).elim
    · refine iteT' (by show (!inV (.int (k0 - 1)) (us.map V.int)) = true; rw [inV_ints]; simp [c]) ?_
      rw [if_neg (fun z => c (pv.mpr z))] at e1
      refine ⟨_, rfl, rfl, _, rfl, ?_⟩
      by_cases z : i = 0
      · have t0 : told = "" := str_nil.mpr (e2.mpr z)
        subst t0
        refine iteF' (by rw [decide_eq_true rfl]; rfl) ?_
        rw [if_pos (p0.mpr z), List.nil_append] at e1
        refine ⟨_, rfl, _, rfl, k0, rfl, sI_log sk, _, _, rfl, rfl, big _ (by show ("" : Str).length + (sI k0).length ≤ 1000; rw [tl_len, tl_len]; omega), ?_⟩
        refine ⟨⟨"" ++ sI k0, _, rfl, ?_, ?_⟩, rfl⟩
        · rw [gl, ← e1, TL.tl_append, List.append_assoc]
        · rw [TL.tl_append]
          exact ⟨fun z => (pk (List.append_eq_nil_iff.mp z).2).elim, fun z => by omega⟩
      · have n0 : ¬ (V.str told = V.str "") := fun y => z (e2.mp (str_nil.mp (V.str.inj y)))
        refine iteT' (by rw [decide_eq_false n0]; rfl) ?_
        rw [if_neg (fun y => z (p0.mp y))] at e1
        refine ⟨_, rfl, _, _, rfl, rfl, big _ (by rw [tl_len, tl_len]; omega), ?_⟩
        refine ⟨_, rfl, _, rfl, k0, rfl, sI_log sk, _, _, rfl, rfl, big _ (by show (told ++ " ").length + (sI k0).length ≤ 1000; rw [tl_len, tl_len, TL.tl_append, List.length_append]; omega), ?_⟩
        refine ⟨⟨told ++ " " ++ sI k0, _, rfl, ?_, ?_⟩, rfl⟩
        · rw [gl, ← e1, TL.tl_append, TL.tl_append]
          show TL.tl told ++ [32] ++ _ ++ _ = _
          simp only [List.append_assoc, List.cons_append, List.nil_append]
        · rw [TL.tl_append, TL.tl_append]
          exact ⟨fun z => (pk (List.append_eq_nil_iff.mp z).2).elim, fun z => by omega⟩
  · rintro σ G ⟨⟨told, k, rfl, e1, e2⟩, rfl⟩
    rw [List.length_map, List.drop_length] at e1
    rw [List.length_map] at e2
    simp only [lw, List.append_nil] at e1
    refine ⟨_, rfl, rfl, _, rfl, ?_⟩
    by_cases z : us = []
    · have t0 : told = "" := str_nil.mpr (e2.mpr (by rw [z]; rfl))
      subst t0
      refine iteT' (decide_eq_true rfl) ?_
      unfold cutText at q
      rw [if_pos z] at q
      exact q
    · have n0 : ¬ (V.str told = V.str "") := fun y => z (List.eq_nil_of_length_eq_zero (e2.mp (str_nil.mp (V.str.inj y))))
      refine iteF' (decide_eq_false n0) ?_
      have et : cutText us = told := TL.ext_tl (by rw [cutText_lw us up z, e1])
      rw [et] at q
      exact ⟨_, rfl, q⟩
end

end G0
namespace G0
open PySem PySem.Spec PyProof.Rows L2
set_option maxHeartbeats 4000000
set_option pp.deepTerms.threshold 6
/-! ### a cut looked at -/
theorem sorted_eq {us ws : List Int} (u : us.Pairwise (· < ·)) (w : ws.Pairwise (· < ·)) (m : ∀ x, x ∈ us ↔ x ∈ ws) : us = ws := by
  have nu : us.Nodup := u.imp fun h => by omega
  have nw : ws.Nodup := w.imp fun h => by omega
  have p : us.Perm ws := (List.perm_ext_iff_of_nodup nu nw).mpr m
  exact List.Perm.eq_of_pairwise (le := fun a b => a ≤ b) (fun a b _ _ h1 h2 => by omega) (u.imp fun h => by omega) (w.imp fun h => by omega) p
section
variable {P : Program} {w : World} {K : PySem.W.Frag} {mg : Str → Option Value} {base : Heap} {C : Addr}
structure CutM (P : Program) (w : World) (K : PySem.W.Frag) (mg : Str → Option Value) (base : Heap) (C : Addr) : Prop where
  S : CutT K C
  L : CutL K C
  gC : mg "Cut" = some (.ref C)
  sf : PySem.W.subIn K (.type "list") (.ref C) = some false
  rows : MeQ P w K mg base C "rows" 1 ["self"] (spCRows C)
  has : MeQ P w K mg base C "has" 1 ["self", "row"] (spCHas C)
  len : MeQ P w K mg base C "__len__" 1 ["self"] (spCLen C)
  str : MeQ P w K mg base C "__str__" 2 ["self"] (spCStr C)
  eq : MeQ P w K mg base C "__eq__" 1 ["self", "other"] (spCEq K C)
  joined : MeQ P w K mg base C "joined" 3 ["self", "other"] (spCJoin C)
  shared : MeQ P w K mg base C "shared" 3 ["self", "other"] (spCShare C)
def spIsCut (K : PySem.W.Frag) (C : Addr) : Sp := fun vs H Q _ => ∃ (p dx ra ha l : Addr) (us ns : List Int), vs = [.ref p, .ref l] ∧ CutAt H C p dx ra ha us ∧ SqL K H l (ns.map V.int) ∧ ns.length < 60 ∧ us.length < 60 ∧ (∀ x, x ∈ us ↔ x ∈ ns) ∧ (∀ x ∈ us, SmI x) ∧ ∀ H', Same H H' → Q (.bl true) H'
theorem sc_law_is_cut : FnScope ["cut", "rows", "due", "again", "told", "k", "row"] ["cut", "rows"] (defScope s_law_is_cut) :=
  ⟨rfl, rfl, rfl, by decide +kernel, rfl, by decide +kernel, by decide +kernel⟩
-- [(0, 'cut'), (1, 'rows'), (2, 'due'), (3, 'again'), (4, 'told'), (5, 'k'), (6, 'row')]
theorem ok_iscut (F : Fn K mg "_law_is_cut" s_law_is_cut) (T : Bl mg) (TB : BlC18 mg) (M : CutM P w K mg base C) (C_same : Cal P w K mg base "_law_same" 1 ["found", "due"] spSame1) (C_same2 : Cal P w K mg base "_law_same" 2 ["found", "due"] spSame2)
    (C_written : Cal P w K mg base "_law_written" 1 ["due"] (spWrit K)) : Cal P w K mg base "_law_is_cut" 5 ["cut", "rows"] (spIsCut K C) := by
  obtain ⟨fR, fdR, GR, bR, mR⟩ := M.rows
  obtain ⟨fA, fdA, GA, bA, mA⟩ := M.has
  obtain ⟨fL, fdL, GL, bL, mL⟩ := M.len
  obtain ⟨fS, fdS, GS, bS, mS⟩ := M.str
  have gC := M.gC
  have sorted0 := TB.sorted
  have set0 := TB.set
  refine cal_of F sc_law_is_cut
    (fun _ _ _ _ _ _ us hl => match us, hl with | [_, _], _ => rfl) ?_ ?_
  · rintro vs H Q E ⟨p, _, _, _, l, _, _, rfl, _⟩
    rfl
  rintro f cdv A outer s H vs Q E free hr ⟨p, dx, ra, ha, l, us, ns, rfl, M0, hl, n60, u60, mem, sm, q⟩
  have hr1 := hr.mono (show 1 ≤ 4 by decide)
  refine ⟨_, (pss_cons (ps_set (i := 2) sc_law_is_cut.nd rfl (Or.inl rfl) (pe_callB (cr_sortedSet (by rfl)) (by rfl) sorted0 (by decide +kernel) (pa_cons (pe_callTy (cr_setOfI (by rfl)) (by rfl) set0 (by decide +kernel) (pa_cons (pv 1) pa_nil)) pa_nil)))
    (pss_cons (ps_if (pt_not (pt_val (pe_callB call_isi (by rfl) T.isinstance (by decide +kernel) (pa_cons (pv 0) (pa_cons (pe_glob (v := .ref C) (by rfl) gC rfl) pa_nil)))))
    (pss_one (ps_ret pe_bl))
    pss_nil)
    (pss_cons (ps_for PassesOwn.never rfl (pi_range1 (by rfl) T.range (pa_cons pe_int pa_nil)) (pg_name (i := 3) sc_law_is_cut.nd rfl (Or.inl rfl))
    (pss_cons (ps_set (i := 4) sc_law_is_cut.nd rfl (Or.inl rfl) (pe_meth0 (pv 0) M.S.cl mR GR hr1 bR .nil pass0))
    (pss_cons (ps_if (PW.pt (pw_or (pt_not (pt_val (pe_cal C_same2 free (hr.mono (by decide)) (pa_cons (pv 4) (pa_cons (pv 2) pa_nil))))) (pw_or1 (pt_not (pt_val (pe_cal C_same free (hr.mono (by decide)) (pa_cons (pe_callB (call_lenOwn mL GL (hr.mono (by decide)) bL pass0) (by rfl) T.len (by decide +kernel) (pa_cons (pv 0) pa_nil)) (pa_cons (pe_callB call_len_seq (by rfl) T.len (by decide +kernel) (pa_cons (pv 2) pa_nil)) pa_nil))))))))
    (pss_one (ps_ret pe_bl))
    pss_nil)
    (pss_cons (ps_if (pt_not (pt_val (pe_cal C_same free (hr.mono (by decide)) (pa_cons (pe_callTy (call_strOwn mS GS hr bS pass0) (by rfl) T.str (by decide +kernel) (pa_cons (pv 0) pa_nil)) (pa_cons (pe_cal C_written free (hr.mono (by decide)) (pa_cons (pv 2) pa_nil)) pa_nil)))))
    (pss_one (ps_ret pe_bl))
    pss_nil)
    (pss_one (ps_expr (pe_bm PySem.F.plainAttrs_list PySem.F.slot_list_append PySem.F.type_list_append mt_append (pv 4) (pa_cons (pe_op op_pow pe_int pe_int) pa_nil))))))))
    (pss_cons (ps_for PassesOwn.never rfl (pi_list (pe_op op_cat (pe_op op_cat (pv 2) (pe_lc (own := [("row", 6)]) (g := gName 6) (tt := tYes) (by rfl) sc_law_is_cut.nd (pi_list (pv 2)) (blkOk_by (N := ["cut", "rows", "due", "again", "told", "k", "row"]) (sc := defScope s_law_is_cut) (by decide +kernel)) (fun _ _ _ _ _ => pg_name (i := 6) sc_law_is_cut.nd rfl (Or.inl rfl)) (fun _ _ _ _ _ => pts_nil) (fun _ _ _ _ _ => (pe_op op_add (pv 6) pe_int)))) (pe_lst (pa_cons pe_int (pa_cons pe_int (pa_cons (pe_op op_pow pe_int pe_int) pa_nil)))))) (pg_name (i := 5) sc_law_is_cut.nd rfl (Or.inl rfl))
    (pss_one (ps_if (pt_not (pt_val (pe_cal C_same free (hr.mono (by decide)) (pa_cons (pe_meth (pv 0) M.S.cl mA GA hr1 bA .nil pass0 (pa_cons (pv 5) pa_nil)) (pa_cons (pe_cmpR u_in (pv 5) (pv 2) (by rfl)) pa_nil)))))
    (pss_one (ps_ret pe_bl))
    pss_nil)))
    (pss_one (ps_ret pe_bl)))))), ?_⟩
  have up := M0.up
  refine ⟨_, rfl, l, ns, rfl, hl, by omega, fun sa sc hsa lsc => ⟨sa, _, sc, rfl, upd_same, by omega, fun ds d upd_ mds lds hd => ?_⟩⟩
  have eds : ds = us := sorted_eq upd_ up fun x => by rw [mds x, mem x]; simp
  subst eds
  have s2 : Same H (upd (upd H sa (SetO w sa (fun j => decide (j ∈ ns)) sc)) d (.lst (ds.map V.int))) := (same_upd hsa).trans (same_upd hd)
  have kd : upd (upd H sa (SetO w sa (fun j => decide (j ∈ ns)) sc)) d (.lst (ds.map V.int)) d = some (.lst (ds.map V.int)) := upd_same
  show tSeq _ _ _ _ (upd (upd H sa (SetO w sa (fun j => decide (j ∈ ns)) sc)) d (.lst (ds.map V.int)))
  revert s2 kd
  generalize upd (upd H sa (SetO w sa (fun j => decide (j ∈ ns)) sc)) d (.lst (ds.map V.int)) = H2
  intro s2 kd
  have M2 := M0.same s2
  refine ⟨_, rfl, .ref p, .ref C, _, _, _, rfl, .own C, M.L.ty M.S.cl M2, kit_self, _, rfl, iteF' rfl ?_⟩
  have big : ∀ n : Nat, n ≤ 1000 → n ≤ sizeLine := fun n h => Nat.le_trans h (by decide)
  have big2 : ∀ n : Nat, n ≤ 1000 → n < sizeLine := fun n h => Nat.lt_of_le_of_lt h (by decide)
  refine ⟨2, rfl, by decide, by decide, ?_⟩
  refine for_range (lo := 0) (n := 2) (fun i σ G => (∃ a t k r : Option V, σ = [some (V.ref p), some (.ref l), some (.ref d), a, t, k, r]) ∧ Same H2 G) ⟨⟨_, _, _, _, rfl⟩, Same.refl _⟩ ?_ ?_
  · rintro i σ G hi ⟨⟨a, t, k, r, rfl⟩, sG⟩
    have MG := M2.same sG
    refine ⟨_, rfl, p, dx, _, rfl, MG.hp, CuF_no _ _ (by decide +kernel) (by decide +kernel), p, dx, ra, ha, ds, rfl, MG, fun t ht => ?_⟩
    have t0 : H2 t = none := none_same'' sG ht
    have s3 := sG.trans (same_upd (o := .lst (ds.map V.int)) ht)
    have kt : upd G t (.lst (ds.map V.int)) t = some (.lst (ds.map V.int)) := upd_same
    show tSeq _ _ _ _ (upd G t (.lst (ds.map V.int)))
    revert s3 kt
    generalize upd G t (.lst (ds.map V.int)) = G3
    intro s3 kt
    have M3 := M2.same s3
    refine ⟨_, rfl, _, rfl, t, d, ds, rfl, kt, s3 _ _ kd, by omega, ?_⟩
    refine ⟨_, rfl, iteF' rfl ?_⟩
    refine ⟨_, rfl, p, dx, _, rfl, M3.hp, p, dx, ra, ha, ds, rfl, M3, ds.length, rfl, big _ (by omega), _, rfl, d, _, rfl, .inl (SqL.of (s3 _ _ kd)), ?_⟩
    refine ⟨.int ds.length, (by rw [List.length_map]; rfl), .int _, ?_⟩
    refine ⟨_, rfl, iteF' rfl ?_⟩
    refine ⟨_, rfl, p, dx, _, rfl, M3.hp, p, dx, ra, ha, ds, rfl, M3, u60, sm, fun G4 s4 => ⟨_, rfl, ?_⟩⟩
    refine ⟨_, rfl, d, ds, rfl, SqL.of (s4 _ _ (s3 _ _ kd)), u60, up, sm, ?_⟩
    refine ⟨_, rfl, .str _, ?_⟩
    refine ⟨_, rfl, iteF' rfl ?_⟩
    refine ⟨_, rfl, .inl ⟨rfl, _, SqL.of (s4 _ _ kt)⟩, _, _, rfl, rfl, ⟨by decide, by decide, by decide⟩, t, _, _, rfl, rfl, s4 _ _ kt, big2 _ (by rw [List.length_map]; omega), ?_⟩
    exact ⟨⟨_, _, _, _, rfl⟩, fun b o e => by rw [upd_ne (ne_of_none e t0)]; exact s4 _ _ (s3 _ _ e)⟩
  rintro σ G ⟨⟨a, t, k, r, rfl⟩, sG⟩
  refine ⟨_, rfl, _, rfl, d, rfl, ⟨_, SqL.of (sG _ _ kd)⟩, fun D hD => ?_⟩
  refine lc_mapL (ks := ds) V.int (fun _ => true) (fun x => V.int (x + 1)) (by omega) hD (SqL.of (sG _ _ kd)) (fun i x G1 Y B ex s1 yes no => ?_) (fun G1 s1 kD => ?_)
  · refine ⟨rfl, yes_ite ?_⟩
    exact ⟨_, rfl, _, _, rfl, rfl, yes rfl G1 (Same.refl _)⟩
  rw [filter_tt] at kD
  have s5 := sG.trans s1
  refine ⟨d, D, _, _, rfl, rfl, s5 _ _ kd, kD, big _ (by rw [List.length_map, List.length_map]; omega), fun e he => ?_⟩
  refine ⟨_, _, rfl, rfl, ⟨by decide, by decide, by decide⟩, (by show 3 ≤ sizeLine; decide), fun e2 he2 => ?_⟩
  refine ⟨e, e2, _, _, rfl, rfl, same_upd he2 _ _ upd_same, upd_same, big _ (by rw [List.length_append, List.length_map, List.length_map]; show ds.length + ds.length + 3 ≤ 1000; omega), fun e3 he3 => ?_⟩
  have em : (ds.map V.int ++ ds.map (fun x => V.int (x + 1))) ++ [.int 0, .int 9, .int ((10 : Int) ^ (Int.toNat 6))] = (ds ++ ds.map (· + 1) ++ [0, 9, (10 : Int) ^ (Int.toNat 6)]).map V.int := by
    rw [List.map_append, List.map_append, List.map_map]
    rfl
  rw [em]
  have s6 := ((s5.trans (same_upd he)).trans (same_upd he2)).trans (same_upd (o := .lst ((ds ++ ds.map (· + 1) ++ [0, 9, (10 : Int) ^ (Int.toNat 6)]).map V.int)) he3)
  refine ⟨e3, rfl, ⟨_, SqL.of upd_same⟩, ?_⟩
  refine for_list (xs := (ds ++ ds.map (· + 1) ++ [0, 9, (10 : Int) ^ (Int.toNat 6)]).map V.int) (fun i σ G => (∃ a t k r : Option V, σ = [some (V.ref p), some (.ref l), some (.ref d), a, t, k, r]) ∧ Same H2 G ∧ G e3 = some (.lst ((ds ++ ds.map (· + 1) ++ [0, 9, (10 : Int) ^ (Int.toNat 6)]).map V.int))) ⟨⟨_, _, _, _, rfl⟩, s6, upd_same⟩ (fun i σ G _ h => SqL.of h.2.2) ?_ ?_
  · rintro i x σ G7 hx ⟨⟨a, t, k, r, rfl⟩, s7, k7⟩
    obtain ⟨k0, hk, rfl⟩ := vals_atA hx
    have M7 := M2.same s7
    refine ⟨_, rfl, p, dx, _, rfl, M7.hp, CuF_no _ _ (by decide +kernel) (by decide +kernel), _, rfl, p, dx, ra, ha, ds, k0, rfl, M7, ?_⟩
    refine ⟨_, rfl, _, rfl, .inl ⟨d, _, rfl, .inl (SqL.of (s7 _ _ kd)), rfl, flat_int ds, ?_⟩⟩
    refine ⟨.bl (decide (k0 ∈ ds)), (by show [V.bl _, V.bl (inV (.int k0) (ds.map V.int))] = _; rw [inV_ints]), .bl _, ?_⟩
    exact ⟨_, rfl, iteF' rfl ⟨⟨_, _, _, _, rfl⟩, s7, k7⟩⟩
  · rintro σ G7 ⟨_, s7, _⟩
    exact q _ (s2.trans s7)
end

end G0
namespace G0
open PySem PySem.Spec PyProof.Rows L2
set_option maxHeartbeats 8000000
set_option pp.deepTerms.threshold 4
section
variable {P : Program} {w : World} {K : PySem.W.Frag} {mg : Str → Option Value} {base : Heap} {C : Addr}
theorem goJ {A : Prop} {D : L2.Ends} (R : L2.St → Hp → Prop) (h1 : (∀ σ H, R σ H → D.nx σ H) → A) (h : ∀ σ H, R σ H → D.nx σ H) : A := h1 h
theorem made_same {G H' : Hp} {x y : Addr} (hx : G x = none) (hy : G y = none) (c : Chg x (upd (upd G y (.own x)) x (.ins C y [])) H') : Same G H' := fun b o e => c b o (ne_of_none e hx) (by rw [upd_ne (ne_of_none e hx), upd_ne (ne_of_none e hy)]; exact e)
theorem CutAt.put {H : Hp} {p dx ra ha q : Addr} {us : List Int} {o : HO} (A : CutAt H C p dx ra ha us) (n1 : p ≠ q) (n2 : ra ≠ q) (n3 : ha ≠ q) : CutAt (upd H q o) C p dx ra ha us := ⟨(upd_ne n1).trans A.hp, (upd_ne n2).trans A.hr, (upd_ne n3).trans A.hh, A.up⟩
theorem CutAt.len {H : Hp} {p dx ra ha : Addr} {us ns : List Int} (A : CutAt H C p dx ra ha us) (m : ∀ x, x ∈ us ↔ x ∈ ns) : us.length ≤ ns.length :=
  List.Nodup.length_le_of_subset (l₁ := us) (A.up.imp fun h => by omega) fun x hx => (m x).mp hx
theorem cut_ints (ns : List Int) (lo hi : Option Int) : ∃ zs : List Int, cutV (ns.map V.int) lo hi = zs.map V.int ∧ zs.length ≤ ns.length ∧ ∀ z ∈ zs, z ∈ ns := by
  unfold cutV
  rw [← List.map_drop, ← List.map_take]
  refine ⟨_, rfl, ?_, fun z hz => List.mem_of_mem_drop (List.mem_of_mem_take hz)⟩
  rw [List.length_take, List.length_drop]
  omega
structure BlR (mg : Str → Option Value) : Prop extends Bl mg where
  sorted : mg "sorted" = none
  set : mg "set" = none
def spRight (C : Addr) : Sp := fun vs H Q _ => ∃ (p c : Addr) (n : Nat), vs = [.ref p] ∧ FeedAt n c H p ∧ n < 90000 ∧ ∀ H', Chg p H H' → FeedAt (n + 27) c H' p → Q (.bl true) H'
theorem sc_law_right : FnScope ["feed", "ones", "others", "row", "handed", "left", "right", "turned", "k"] ["feed"] (defScope s_law_right) :=
  ⟨rfl, rfl, rfl, by decide +kernel, rfl, by decide +kernel, by decide +kernel⟩
-- [(0, 'feed'), (1, 'ones'), (2, 'others'), (3, 'row'), (4, 'handed'), (5, 'left'), (6, 'right'), (7, 'turned'), (8, 'k')]
theorem ok_right (F : Fn K mg "_law_right" s_law_right) (T : BlR mg) (M : CutM P w K mg base C) (MC : MkCut P w K mg base C) (C_same : Cal P w K mg base "_law_same" 1 ["found", "due"] spSame1) (C_draw : Cal P w K mg base "_law_draw" 1 ["feed", "many"] spD)
    (C_row_list : Cal P w K mg base "_law_row_list" 2 ["feed"] spRowL) (C_is_cut : Cal P w K mg base "_law_is_cut" 5 ["cut", "rows"] (spIsCut K C)) : Cal P w K mg base "_law_right" 6 ["feed"] (spRight C) := by
  obtain ⟨fJ, fdJ, GJ, bJ, mJ⟩ := M.joined
  obtain ⟨fS, fdS, GS, bS, mS⟩ := M.shared
  obtain ⟨fE, fdE, GE, bE, mE⟩ := M.eq
  obtain ⟨fC, fdC, GC, bC, MI⟩ := MC.made
  have gC := MC.mg
  refine cal_of F sc_law_right
    (fun _ _ _ _ _ _ us hl => match us, hl with | [_], _ => rfl) ?_ ?_
  · rintro vs H Q E ⟨p, c, n, rfl, _⟩
    rfl
  rintro f cdv A outer s H vs Q E free hr ⟨p, c, n, rfl, hP, hn, q⟩
  have hr1 := hr.mono (show 1 ≤ 5 by decide)
  have hr2 := hr.mono (show 2 ≤ 5 by decide)
  have hr3 := hr.mono (show 3 ≤ 5 by decide)
  refine ⟨_, (pss_cons (ps_set (i := 1) sc_law_right.nd rfl (Or.inl rfl) (pe_cal C_row_list free (hr.mono (by decide)) (pa_cons (pv 0) pa_nil)))
    (pss_cons (ps_set (i := 2) sc_law_right.nd rfl (Or.inr rfl) (pe_cal C_row_list free (hr.mono (by decide)) (pa_cons (pv 0) pa_nil)))
    (pss_cons (ps_set (i := 3) sc_law_right.nd rfl (Or.inr rfl) (pe_cal C_draw free (hr.mono (by decide)) (pa_cons (pv 0) (pa_cons (pe_op op_pow pe_int pe_int) pa_nil))))
    (pss_cons (ps_set (i := 4) sc_law_right.nd rfl (Or.inl rfl) (pe_callTy call_list_of (by rfl) T.list (by decide +kernel) (pa_cons (pv 1) pa_nil)))
    (pss_cons (ps_set (i := 5) sc_law_right.nd rfl (Or.inl rfl) (pe_make MI GC hr2 (by rfl) gC bC .nil pass0 (pa_cons (pv 4) pa_nil)))
    (pss_cons (ps_set (i := 6) sc_law_right.nd rfl (Or.inl rfl) (pe_make MI GC hr2 (by rfl) gC bC .nil pass0 (pa_cons (pe_callTy call_tuple_of (by rfl) T.tuple (by decide +kernel) (pa_cons (pv 2) pa_nil)) pa_nil)))
    (pss_cons (ps_expr (pe_bm PySem.F.plainAttrs_list PySem.F.slot_list_append PySem.F.type_list_append mt_append (pv 4) (pa_cons (pv 3) pa_nil)))
    (pss_cons (ps_setLc (i := 7) (own := [("k", 8)]) (g := gName 8)  (by rfl) sc_law_right.nd rfl rfl (sw_true rfl rfl rfl (by decide +kernel)) (pi_list (pv 1)) (blkOk_by (N := ["feed", "ones", "others", "row", "handed", "left", "right", "turned", "k"]) (sc := defScope s_law_right) (by decide +kernel)) (fun _ _ _ _ _ => pg_name (i := 8) sc_law_right.nd rfl (Or.inl rfl)) (fun _ _ _ _ _ => pts_one (pt_cmpR op_ne (pv 8) (pv 3) (nomark _))) (fun _ _ _ _ _ => (pv 8)))
    (pss_cons (ps_if (pt_cmpR u_notin (pv 3) (pv 1) (by rfl))
    (pss_one (ps_set (i := 7) sc_law_right.nd rfl (Or.inl rfl) (pe_op op_cat (pv 1) (pe_lst (pa_cons (pv 3) pa_nil)))))
    pss_nil)
    (pss_cons (ps_if (PW.pt (pw_or (pt_not (pt_val (pe_cal C_is_cut free (hr.mono (by decide)) (pa_cons (pv 5) (pa_cons (pv 1) pa_nil))))) (pw_or1 (pt_not (pt_val (pe_cal C_is_cut free (hr.mono (by decide)) (pa_cons (pv 6) (pa_cons (pv 2) pa_nil))))))))
    (pss_one (ps_ret pe_bl))
    pss_nil)
    (pss_cons (ps_if (pt_not (pt_val (pe_cal C_is_cut free (hr.mono (by decide)) (pa_cons (pe_meth (pv 5) M.S.cl mJ GJ hr3 bJ .nil pass0 (pa_cons (pv 6) pa_nil)) (pa_cons (pe_op op_cat (pv 1) (pv 2)) pa_nil)))))
    (pss_one (ps_ret pe_bl))
    pss_nil)
    (pss_cons (ps_if (pt_not (pt_val (pe_cal C_is_cut free (hr.mono (by decide)) (pa_cons (pe_meth (pv 5) M.S.cl mS GS hr3 bS .nil pass0 (pa_cons (pv 6) pa_nil)) (pa_cons (pe_lc (own := [("k", 8)]) (g := gName 8)  (by rfl) sc_law_right.nd (pi_list (pv 1)) (blkOk_by (N := ["feed", "ones", "others", "row", "handed", "left", "right", "turned", "k"]) (sc := defScope s_law_right) (by decide +kernel)) (fun _ _ _ _ _ => pg_name (i := 8) sc_law_right.nd rfl (Or.inl rfl)) (fun _ _ _ _ _ => pts_one (pt_cmpR (u_inK K) (pv 8) (pv 2) (by rfl))) (fun _ _ _ _ _ => (pv 8))) pa_nil)))))
    (pss_one (ps_ret pe_bl))
    pss_nil)
    (pss_cons (ps_if (PW.pt (pw_or (pt_not (pt_val (pe_cal C_same free (hr.mono (by decide)) (pa_cons (pe_cmpR (op_eqOwn GE mE.at_ mE.fn hr1 bE pass0) (pv 5) (pe_make MI GC hr2 (by rfl) gC bC .nil pass0 (pa_cons (pe_op op_cat (pe_revL (pv 1)) (pe_slice sl_list (pv 1) po_none (po_some pe_int))) pa_nil)) (nomark _)) (pa_cons pe_bl pa_nil))))) (pw_or1 (pt_not (pt_val (pe_cal C_same free (hr.mono (by decide)) (pa_cons (pe_cmpR (op_eqOwn GE mE.at_ mE.fn hr1 bE pass0) (pv 5) (pe_make MI GC hr2 (by rfl) gC bC .nil pass0 (pa_cons (pv 7) pa_nil)) (nomark _)) (pa_cons pe_bl pa_nil))))))))
    (pss_one (ps_ret pe_bl))
    pss_nil)
    (pss_cons (ps_if (pt_not (pt_val (pe_cal C_same free (hr.mono (by decide)) (pa_cons (pe_cmpR (op_eqOwn GE mE.at_ mE.fn hr1 bE pass0) (pv 5) (pe_callB (cr_sortedSet (by rfl)) (by rfl) T.sorted (by decide +kernel) (pa_cons (pe_callTy (cr_setOfI (by rfl)) (by rfl) T.set (by decide +kernel) (pa_cons (pv 1) pa_nil)) pa_nil)) (nomark _)) (pa_cons pe_bl pa_nil)))))
    (pss_one (ps_ret pe_bl))
    pss_nil)
    (pss_cons (ps_if (pt_not (pt_val (pe_cal C_same free (hr.mono (by decide)) (pa_cons (pe_cmpR (op_eqOwn GE mE.at_ mE.fn hr1 bE pass0) (pv 5) (pv 6) (nomark _)) (pa_cons (pe_cmpR (op_eqD (u64 hr)) (pe_callB (cr_sortedSet (by rfl)) (by rfl) T.sorted (by decide +kernel) (pa_cons (pe_callTy (cr_setOfI (by rfl)) (by rfl) T.set (by decide +kernel) (pa_cons (pv 1) pa_nil)) pa_nil)) (pe_callB (cr_sortedSet (by rfl)) (by rfl) T.sorted (by decide +kernel) (pa_cons (pe_callTy (cr_setOfI (by rfl)) (by rfl) T.set (by decide +kernel) (pa_cons (pv 2) pa_nil)) pa_nil)) (nomark _)) pa_nil)))))
    (pss_one (ps_ret pe_bl))
    pss_nil)
    (pss_one (ps_ret (pe_and (pe_cal C_is_cut free (hr.mono (by decide)) (pa_cons (pv 5) (pa_cons (pv 1) pa_nil))) (pe_one (pe_cal C_is_cut free (hr.mono (by decide)) (pa_cons (pv 6) (pa_cons (pv 2) pa_nil)))))))))))))))))))))), ?_⟩
  refine ⟨_, rfl, p, c, n, rfl, hP, by omega, fun l1 ns H1 l10 k1 ln low1 c1 P1 => ?_⟩
  have p1 : l1 ≠ p := fun z => by
    obtain ⟨xs, e, _⟩ := hP
    rw [← z, l10] at e; cases e
  refine ⟨_, rfl, p, c, n + 13, rfl, P1, by omega, fun l2 ms H2 l20 k2 lm low2 c2 P2 => ?_⟩
  have k12 := c2 _ _ p1 k1
  have p2 : l2 ≠ p := fun z => by
    obtain ⟨xs, e, _⟩ := P1
    rw [← z, l20] at e; cases e
  have n12 : l1 ≠ l2 := ne_of_none k1 l20
  refine ⟨_, rfl, _, _, rfl, rfl, ⟨by decide, by decide, by decide⟩, p, c, (10 : Int) ^ (Int.toNat 6), n + 26, rfl, by decide, by decide, P2, by omega, fun row H3 r0 r1 c3 P3 => ?_⟩
  have r1' : row < 1000000 := r1
  have k13 := c3 _ _ p1 k12
  have k23 := c3 _ _ p2 k2
  have c03 := (c1.trans c2).trans c3
  refine ⟨_, rfl, l1, _, rfl, .inl (SqL.of k13), fun l3 l30 => ?_⟩
  have s4 := same_upd (o := .lst (ns.map V.int)) l30
  have k34 : upd H3 l3 (.lst (ns.map V.int)) l3 = some (.lst (ns.map V.int)) := upd_same
  revert s4 k34
  show Same H3 (upd H3 l3 (.lst (ns.map V.int))) → _ → tSeq _ _ _ _ (upd H3 l3 (.lst (ns.map V.int)))
  generalize upd H3 l3 (.lst (ns.map V.int)) = H4
  intro s4 k34
  refine ⟨_, rfl, fun x y hx hy ne => ⟨x, y, l3, ns, rfl, upd_same, .inl (SqL.of (by rw [upd_ne (ne_of_none k34 hx), upd_ne (ne_of_none k34 hy)]; exact k34)), by omega, fun ra ha us H5 c5 ra0 ha0 AL memL => ⟨rfl, ?_⟩⟩⟩
  have s5 := made_same hx hy c5
  have k3y : upd (upd H4 y (.own x)) x (.ins C y []) l3 = some (.lst (ns.map V.int)) := by rw [upd_ne (ne_of_none k34 hx), upd_ne (ne_of_none k34 hy)]; exact k34
  have nx1 := (ne_of_none k34 hx).symm
  have nr1 := (ne_of_none k3y ra0).symm
  have nh1 := (ne_of_none k3y ha0).symm
  have k35 := s5 _ _ k34
  have s35 := s4.trans s5
  clear c5 ra0 ha0 k3y
  refine ⟨_, rfl, l2, _, rfl, .inl ⟨SqL.of (s35 _ _ k23), fun tt tt0 => ?_⟩⟩
  refine fun x2 y2 hx2 hy2 ne2 => ⟨x2, y2, tt, ms, rfl, upd_same, .inr (SqT.of (by rw [upd_ne (ne_of_none upd_same hx2), upd_ne (ne_of_none upd_same hy2)]; exact upd_same)), by omega, fun ra2 ha2 ws H6 c6 ra20 ha20 AR memR => ⟨rfl, ?_⟩⟩
  have st := same_upd (o := .tup (ms.map V.int)) tt0
  have k3t := st _ _ k35
  have k3x : upd (upd (upd H5 tt (.tup (ms.map V.int))) y2 (.own x2)) x2 (.ins C y2 []) l3 = some (.lst (ns.map V.int)) := by rw [upd_ne (ne_of_none k3t hx2), upd_ne (ne_of_none k3t hy2)]; exact k3t
  have s6 : Same H5 H6 := st.trans (made_same hx2 hy2 c6)
  have nx2 := (ne_of_none k3t hx2).symm
  have nr2 := (ne_of_none k3x ra20).symm
  have nh2 := (ne_of_none k3x ha20).symm
  have k36 := s6 _ _ k35
  have s36 := s35.trans s6
  have AL6 := AL.same s6
  clear c6 k3x k3t
  refine ⟨_, rfl, .inl ⟨rfl, _, SqL.of k36⟩, _, rfl, l3, _, _, rfl, rfl, k36, by rw [List.length_map]; exact Nat.lt_of_le_of_lt ln (by decide), ?_⟩
  have AL7 := AL6.put (q := l3) (o := .lst (ns.map V.int ++ [.int row])) nx1 nr1 nh1
  have AR7 := AR.put (q := l3) (o := .lst (ns.map V.int ++ [.int row])) nx2 nr2 nh2
  have s37 : Same H3 (upd H6 l3 (.lst (ns.map V.int ++ [.int row]))) := fun b o e => by rw [upd_ne (ne_of_none e l30)]; exact s36 b o e
  revert AL7 AR7 s37
  show _ → _ → _ → tSeq _ _ _ _ (upd H6 l3 (.lst (ns.map V.int ++ [.int row])))
  generalize upd H6 l3 (.lst (ns.map V.int ++ [.int row])) = H7
  intro AL7 AR7 s37
  have k17 := s37 _ _ k13
  have k27 := s37 _ _ k23
  refine ⟨_, rfl, l1, rfl, ⟨_, SqL.of k17⟩, fun D hD => ?_⟩
  refine lc_filtI (K := K) (a := l1) (ns := ns) (fun x => decide (x ≠ row)) (by omega) hD (SqL.of k17) (fun i x G Y B hx sG h => ?_) (fun G sG kD => ?_)
  · refine ⟨rfl, _, rfl, _, rfl, rfl, ?_⟩
    exact ⟨_, rfl, tst (by simp) (fun h => ⟨_, rfl, h⟩) h⟩
  have big : ∀ n : Nat, n ≤ 1000 → n ≤ sizeLine := fun n h => Nat.le_trans h (by decide)
  refine ⟨_, rfl, _, rfl, .inl ⟨l1, _, rfl, .inl (SqL.of (sG _ _ k17)), rfl, flat_int ns, _, rfl, ?_⟩⟩
  apply goJ (fun σ G2 => ∃ (tn : Addr) (tl : List Int) (k : Option V), σ = [some (.ref p), some (.ref l1), some (.ref l2), some (.int row), some (.ref l3), some (.ref x), some (.ref x2), some (.ref tn), k] ∧ Same H7 G2 ∧ G2 tn = some (.lst (tl.map V.int)) ∧ tl.length < 60 ∧ (∀ z ∈ tl, 0 ≤ z ∧ z < 1000000) ∧ ¬ (∀ z, z ∈ tl ↔ z ∈ ns))
  · intro J
    by_cases c : row ∈ ns
    · refine iteF' (by show (!inV (.int row) (ns.map V.int)) = false; rw [inV_ints]; simp [c]) ?_
      refine J _ _ ⟨D, _, _, rfl, sG, kD, Nat.lt_of_le_of_lt (List.length_filter_le ..) (by omega), fun z hz => low1 z (List.mem_filter.mp hz).1, fun z => ?_⟩
      have := (List.mem_filter.mp ((z row).mpr c)).2
      simp at this
    · refine iteT' (by show (!inV (.int row) (ns.map V.int)) = true; rw [inV_ints]; simp [c]) ?_
      refine ⟨_, rfl, _, rfl, (by show 1 ≤ sizeLine; decide), fun e he => ⟨l1, e, _, _, rfl, rfl, same_upd he _ _ (sG _ _ k17), upd_same, big _ (by rw [List.length_map]; show ns.length + 1 ≤ 1000; omega), fun e2 he2 => J _ _ ⟨e2, ns ++ [row], _, rfl, (sG.trans (same_upd he)).trans (same_upd he2), (by rw [upd_same, List.map_append]; rfl), by rw [List.length_append, List.length_singleton]; omega, fun z hz => ?_, fun z => c ((z row).mp (by simp))⟩⟩⟩
      rcases List.mem_append.mp hz with h | h
      · exact low1 z h
      · rw [List.mem_singleton.mp h]; exact ⟨r0, r1'⟩
  rintro σ G2 ⟨tn, tl, k, rfl, U, kT, lT, lowT, nT⟩
  have lL := AL7.len memL
  have lR := AR7.len memR
  have smL : ∀ z ∈ us, SmI z := fun z hz => have h := low1 z ((memL z).mp hz); ⟨h.1, by omega⟩
  have smR : ∀ z ∈ ws, SmI z := fun z hz => have h := low2 z ((memR z).mp hz); ⟨h.1, by omega⟩
  refine ⟨_, rfl, _, rfl, x, y, ra, ha, l1, us, ns, rfl, AL7.same U, SqL.of (U _ _ k17), by omega, by omega, memL, smL, fun G3 s3 => ?_⟩
  refine ⟨_, rfl, iteF' rfl ?_⟩
  replace kT := s3 _ _ kT
  replace U := U.trans s3
  refine ⟨_, rfl, _, rfl, x2, y2, ra2, ha2, l2, ws, ms, rfl, AR7.same U, SqL.of (U _ _ k27), by omega, by omega, memR, smR, fun G4 s4' => ?_⟩
  refine ⟨_, rfl, iteF' rfl ?_⟩
  replace kT := s4' _ _ kT
  replace U := U.trans s4'
  refine ⟨_, rfl, x, y, _, rfl, (AL7.same U).hp, CuF_no _ _ (by decide +kernel) (by decide +kernel), _, rfl, x, y, ra, ha, x2, y2, ra2, ha2, us, ws, rfl, AL7.same U, AR7.same U, by omega, fun p3 dx3 ra3 ha3 xs G5 h3 s5' A3 m3 => ?_⟩
  replace kT := s5' _ _ kT
  replace U := U.trans s5'
  refine ⟨_, rfl, _, rfl, l1, l2, _, _, rfl, rfl, U _ _ k17, U _ _ k27, big _ (by rw [List.length_map, List.length_map]; omega), fun e he => ?_⟩
  have se := same_upd (o := .lst (ns.map V.int ++ ms.map V.int)) he
  have m3' : ∀ z, z ∈ xs ↔ z ∈ ns ++ ms := fun z => by rw [m3 z, List.mem_append, List.mem_append, memL z, memR z]
  have l3' := A3.len m3'
  rw [List.length_append] at l3'
  refine ⟨p3, dx3, ra3, ha3, e, xs, ns ++ ms, rfl, A3.same se, (by rw [List.map_append]; exact SqL.of upd_same), by rw [List.length_append]; omega, by omega, m3', fun z hz => ?_, fun G6 s6' => ?_⟩
  · rcases List.mem_append.mp ((m3' z).mp hz) with h | h
    · have := low1 z h; exact ⟨this.1, by omega⟩
    · have := low2 z h; exact ⟨this.1, by omega⟩
  refine ⟨_, rfl, iteF' rfl ?_⟩
  replace kT := s6' _ _ (se _ _ kT)
  replace U := U.trans (se.trans s6')
  clear A3 se m3' l3' m3
  refine ⟨_, rfl, x, y, _, rfl, (AL7.same U).hp, CuF_no _ _ (by decide +kernel) (by decide +kernel), _, rfl, x, y, ra, ha, x2, y2, ra2, ha2, us, ws, rfl, AL7.same U, AR7.same U, by omega, fun p3 dx3 ra3 ha3 xs G7 h3 s7 A3 m3 => ?_⟩
  replace kT := s7 _ _ kT
  replace U := U.trans s7
  refine ⟨_, rfl, l1, rfl, ⟨_, SqL.of (U _ _ k17)⟩, fun D2 hD2 => ?_⟩
  refine lc_filtI (K := K) (a := l1) (ns := ns) (fun x => decide (x ∈ ms)) (by omega) hD2 (SqL.of (U _ _ k17)) (fun i z G Y B hx sG h => ?_) (fun G8 s8 kD2 => ?_)
  · refine ⟨rfl, _, rfl, _, rfl, .inl ⟨l2, _, rfl, .inl (SqL.of (sG _ _ (U _ _ k27))), rfl, flat_int ms, ?_⟩⟩
    exact ⟨_, rfl, tst (by rw [inV_ints]; rfl) (fun h => ⟨_, rfl, h⟩) h⟩
  have m3' : ∀ z, z ∈ xs ↔ z ∈ ns.filter fun x => decide (x ∈ ms) := fun z => by rw [m3 z, List.mem_filter, List.mem_filter, memL z, decide_eq_true_iff, decide_eq_true_iff, memR z]
  have l3' := Nat.le_trans (A3.len m3') (List.length_filter_le ..)
  replace kT := s8 _ _ kT
  replace U := U.trans s8
  refine ⟨p3, dx3, ra3, ha3, D2, xs, _, rfl, A3.same s8, SqL.of kD2, Nat.lt_of_le_of_lt (List.length_filter_le ..) (by omega), by omega, m3', fun z hz => ?_, fun G9 s9 => ?_⟩
  · have := low1 z (List.mem_filter.mp ((m3' z).mp hz)).1
    exact ⟨this.1, by omega⟩
  refine ⟨_, rfl, iteF' rfl ?_⟩
  replace kT := s9 _ _ kT
  replace U := U.trans s9
  clear A3 m3' l3' m3
  refine ⟨_, rfl, _, rfl, l1, _, rfl, SqL.of (U _ _ k17), fun e he => ?_⟩
  obtain ⟨zs, ez, lz, mz⟩ := cut_ints ns none (some 2)
  refine ⟨_, rfl, 2, rfl, l1, _, rfl, SqL.of (same_upd he _ _ (U _ _ k17)), fun e2 he2 => ?_⟩
  rw [ez, ← List.map_reverse]
  rw [← List.map_reverse] at he2
  have kz : upd (upd G9 e (.lst (ns.reverse.map V.int))) e2 (.lst (zs.map V.int)) e = some (.lst (ns.reverse.map V.int)) := same_upd he2 _ _ upd_same
  refine ⟨e, e2, _, _, rfl, rfl, kz, upd_same, big _ (by rw [List.length_map, List.length_map, List.length_reverse]; omega), fun e3 he3 => ?_⟩
  rw [← List.map_append]
  have se := ((same_upd (o := .lst (ns.reverse.map V.int)) he).trans (same_upd (o := .lst (zs.map V.int)) he2)).trans (same_upd (o := .lst ((ns.reverse ++ zs).map V.int)) he3)
  have ke : upd (upd (upd G9 e (.lst (ns.reverse.map V.int))) e2 (.lst (zs.map V.int))) e3 (.lst ((ns.reverse ++ zs).map V.int)) e3 = some (.lst ((ns.reverse ++ zs).map V.int)) := upd_same
  revert se ke
  generalize upd (upd (upd G9 e (.lst (ns.reverse.map V.int))) e2 (.lst (zs.map V.int))) e3 (.lst ((ns.reverse ++ zs).map V.int)) = G10
  intro se ke
  replace kT := se _ _ kT
  replace U := U.trans se
  intro x5 y5 hx5 hy5 ne5
  refine ⟨x5, y5, e3, ns.reverse ++ zs, rfl, upd_same, .inl (SqL.of (by rw [upd_ne (ne_of_none ke hx5), upd_ne (ne_of_none ke hy5)]; exact ke)), by rw [List.length_append, List.length_reverse]; omega, fun ra5 ha5 us5 G11 c5 _ _ A5 m5 => ⟨rfl, ?_⟩⟩
  have s5 := made_same hx5 hy5 c5
  replace kT := s5 _ _ kT
  replace U := U.trans s5
  have eu : us = us5 := sorted_eq AL7.up A5.up fun z => by
    rw [memL z, m5 z, List.mem_append, List.mem_reverse]
    exact ⟨.inl, fun h => h.elim id (mz z)⟩
  have AL := AL7.same U
  refine ⟨x, y, _, rfl, AL.hp, .inl ⟨x5, y5, _, rfl, A5.hp⟩, x, y, ra, ha, us, x5, rfl, AL, .inl ⟨y5, ra5, ha5, us5, A5, _, rfl, ?_⟩⟩
  rw [eu, decide_eq_true rfl]
  refine ⟨_, rfl, .bl _, ?_⟩
  refine ⟨_, rfl, iteF' rfl ?_⟩
  clear c5 A5 m5 AL
  refine ⟨_, rfl, _, rfl, fun x5 y5 hx5 hy5 ne5 => ⟨x5, y5, tn, tl, rfl, upd_same, .inl (SqL.of (by rw [upd_ne (ne_of_none kT hx5), upd_ne (ne_of_none kT hy5)]; exact kT)), by omega, fun ra5 ha5 us6 G12 c5 _ _ A5 m5 => ⟨rfl, ?_⟩⟩⟩
  have s5 := made_same hx5 hy5 c5
  replace U := U.trans s5
  have nu : ¬ us = us6 := fun z => nT fun v => by rw [← m5 v, ← z, memL v]
  have AL := AL7.same U
  refine ⟨x, y, _, rfl, AL.hp, .inl ⟨x5, y5, _, rfl, A5.hp⟩, x, y, ra, ha, us, x5, rfl, AL, .inl ⟨y5, ra5, ha5, us6, A5, _, rfl, ?_⟩⟩
  rw [decide_eq_false nu]
  refine ⟨_, rfl, .bl _, ?_⟩
  refine ⟨_, rfl, iteF' rfl ?_⟩
  clear c5 A5 m5 AL
  refine ⟨_, rfl, _, rfl, l1, ns, rfl, SqL.of (U _ _ k17), by omega, fun sa sc hsa lsc => ⟨sa, _, sc, rfl, upd_same, by omega, fun ds d up_ mds lds hd => ?_⟩⟩
  have sd := (same_upd (o := SetO w sa (fun j => decide (j ∈ ns)) sc) hsa).trans (same_upd (o := .lst (ds.map V.int)) hd)
  replace U := U.trans sd
  have AL := AL7.same U
  refine ⟨x, y, _, rfl, AL.hp, .inr ⟨d, _, rfl, upd_same, M.sf⟩, x, y, ra, ha, us, d, rfl, AL, .inr ⟨_, upd_same, _, rfl, ?_⟩⟩
  refine ⟨_, rfl, .bl _, ?_⟩
  refine ⟨_, rfl, iteF' rfl ?_⟩
  have AR := AR7.same U
  refine ⟨_, rfl, _, rfl, x, y, _, rfl, AL.hp, .inl ⟨x2, y2, _, rfl, AR.hp⟩, x, y, ra, ha, us, x2, rfl, AL, .inl ⟨y2, ra2, ha2, ws, AR, _, rfl, ?_⟩⟩
  clear sd AL AR
  refine ⟨_, rfl, l1, ns, rfl, SqL.of (U _ _ k17), by omega, fun sa1 sc1 hsa1 lsc1 => ⟨sa1, _, sc1, rfl, upd_same, by omega, fun d1 e1 up1 m1 ld1 hd1 => ?_⟩⟩
  have sd1 := (same_upd (o := SetO w sa1 (fun j => decide (j ∈ ns)) sc1) hsa1).trans (same_upd (o := .lst (d1.map V.int)) hd1)
  replace U := U.trans sd1
  refine ⟨_, rfl, l2, ms, rfl, SqL.of (U _ _ k27), by omega, fun sa2 sc2 hsa2 lsc2 => ⟨sa2, _, sc2, rfl, upd_same, by omega, fun d2 e2 up2 m2 ld2 hd2 => ?_⟩⟩
  have sd2 := (same_upd (o := SetO w sa2 (fun j => decide (j ∈ ms)) sc2) hsa2).trans (same_upd (o := .lst (d2.map V.int)) hd2)
  replace U := U.trans sd2
  have ed1 : d1 = us := sorted_eq up1 AL7.up fun z => by rw [m1 z, memL z]; simp
  have ed2 : d2 = ws := sorted_eq up2 AR7.up fun z => by rw [m2 z, memR z]; simp
  subst ed1 ed2
  refine ⟨_, _, dp_ints (sd2 _ _ upd_same), dp_ints upd_same, shaped_ints _, shaped_ints _, ?_⟩
  rw [eqv_il]
  refine ⟨_, rfl, .bl _, ?_⟩
  refine ⟨_, rfl, iteF' rfl ?_⟩
  refine ⟨_, rfl, _, rfl, x, y, ra, ha, l1, _, ns, rfl, AL7.same U, SqL.of (U _ _ k17), by omega, by omega, memL, smL, fun G14 s14 => ?_⟩
  refine ⟨_, rfl, iteT ?_⟩
  replace U := U.trans s14
  refine ⟨_, rfl, _, rfl, x2, y2, ra2, ha2, l2, _, ms, rfl, AR7.same U, SqL.of (U _ _ k27), by omega, by omega, memR, smR, fun G15 s15 => ?_⟩
  have S := s37.trans (U.trans s15)
  exact q G15 (c03.trans (Chg.same S)) (P3.keep S)
/-! ### the law -/
def spLaw (K : PySem.W.Frag) : Sp := fun vs H Q _ => ∃ (a : Addr) (ns : List Int), vs = [.ref a] ∧ SqL K H a (ns.map V.int) ∧ ns.length ≤ 63 ∧ ∀ H', Q (.bl true) H'
structure MkCut0 (P : Program) (w : World) (K : PySem.W.Frag) (mg : Str → Option Value) (base : Heap) (C : Addr) : Prop where
  made : ∃ f fd ds e, FnOk P w K mg base CX0 1 f fd ["self", "rows"] (spCInit K C) ∧ Binds K fd ["self", "rows"] ds ∧ Vals [.ref e] ds ∧ Mk K C f ∧ ∀ H, SqT K H e []
  mg : mg "Cut" = some (.ref C)
theorem sc_law : FnScope ["script", "feed", "turn"] ["script"] (defScope s_law) :=
  ⟨rfl, rfl, rfl, by decide +kernel, rfl, by decide +kernel, by decide +kernel⟩
-- [(0, 'script'), (1, 'feed'), (2, 'turn')]
theorem ok_law (F : Fn K mg "law" s_law) (T : BlR mg) (MC : MkCut0 P w K mg base C) (C_feed : Cal P w K mg base "_law_feed" 1 ["cells"] (spFeed K)) (C_more : Cal P w K mg base "_law_more" 1 ["feed"] spMore) (C_step : Cal P w K mg base "_law_step" 1 ["feed"] spStep)
    (C_is_cut : Cal P w K mg base "_law_is_cut" 5 ["cut", "rows"] (spIsCut K C)) (C_right : Cal P w K mg base "_law_right" 6 ["feed"] (spRight C)) : Cal P w K mg base "law" 7 ["script"] (spLaw K) := by
  obtain ⟨fC, fdC, dsC, e0, GC, bC, vC, MI, emp⟩ := MC.made
  have gC := MC.mg
  refine cal_of F sc_law
    (fun _ _ _ _ _ _ us hl => match us, hl with | [_], _ => rfl) ?_ ?_
  · rintro vs H Q E ⟨a, ns, rfl, _⟩
    rfl
  rintro f cdv A outer s H vs Q E free hr ⟨a, ns, rfl, hS, hl, q⟩
  have hr2 := hr.mono (show 2 ≤ 6 by decide)
  refine ⟨_, (pss_cons (ps_if (pt_not (pt_val (pe_cal C_is_cut free (hr.mono (by decide)) (pa_cons (pe_make0 MI GC hr2 (by rfl) gC bC vC pass0) (pa_cons (pe_lst pa_nil) pa_nil)))))
    (pss_one (ps_ret pe_bl))
    pss_nil)
    (pss_cons (ps_set (i := 1) sc_law.nd rfl (Or.inl rfl) (pe_cal C_feed free (hr.mono (by decide)) (pa_cons (pv 0) pa_nil)))
    (pss_cons (ps_for PassesOwn.never rfl (pi_range1 (by rfl) T.range (pa_cons pe_int pa_nil)) (pg_name (i := 2) sc_law.nd rfl (Or.inl rfl))
    (pss_cons (ps_expr (pe_cal C_step free (hr.mono (by decide)) (pa_cons (pv 1) pa_nil)))
    (pss_cons (ps_if (pt_not (pt_val (pe_cal C_right free (hr.mono (by decide)) (pa_cons (pv 1) pa_nil))))
    (pss_one (ps_ret pe_bl))
    pss_nil)
    (pss_one (ps_if (pt_not (pt_val (pe_cal C_more free (hr.mono (by decide)) (pa_cons (pv 1) pa_nil))))
    (pss_one ps_break)
    pss_nil)))))
    (pss_one (ps_ret pe_bl))))), ?_⟩
  refine fun x y hx hy ne => ⟨x, y, e0, [], rfl, upd_same, .inr (emp _), by show 0 < 60; decide, fun ra ha us H1 c1 _ _ A1 m1 => ⟨rfl, ?_⟩⟩
  have s1 := made_same hx hy c1
  have u0 : us = [] := List.eq_nil_iff_forall_not_mem.mpr fun z hz => by simpa using (m1 z).mp hz
  subst u0
  refine ⟨Nat.zero_le _, fun l hl0 => ?_⟩
  refine ⟨x, y, ra, ha, l, [], [], rfl, A1.same (same_upd hl0), SqL.of upd_same, by show 0 < 60; decide, by show 0 < 60; decide, fun _ => Iff.rfl, (fun z hz => nomatch hz), fun H2 s2 => ?_⟩
  refine ⟨_, rfl, iteF' rfl ?_⟩
  have S2 := (s1.trans (same_upd hl0)).trans s2
  refine ⟨_, rfl, a, ns, rfl, S2.seq hS, hl, fun p c H3 s3 p0 P3 C3 pc => ?_⟩
  refine ⟨64, rfl, by decide, by decide, ?_⟩
  refine for_range (lo := 0) (n := 64) (fun i σ G => (∃ z, σ = [some (.ref a), some (.ref p), z]) ∧ FeedAt (i * 27) c G p ∧ CellsAt ns G c) ⟨⟨_, rfl⟩, P3, C3⟩ ?_ (fun _ _ _ => q _)
  rintro i σ G hi ⟨⟨z, rfl⟩, PG, hcG⟩
  have ib : i * 27 ≤ 64 * 27 := Nat.mul_le_mul_right _ (by omega)
  refine ⟨_, rfl, p, c, i * 27, ns, rfl, PG, hcG, fun G1 c1 P1 => ?_⟩
  have hc1 : CellsAt ns G1 c := ⟨c1 _ _ pc.symm hcG.1, hcG.2⟩
  refine ⟨_, rfl, p, c, i * 27, rfl, P1, by omega, fun G2 c2 P2 => ⟨_, rfl, iteF' rfl ?_⟩⟩
  have hc2 : CellsAt ns G2 c := ⟨c2 _ _ pc.symm hc1.1, hc1.2⟩
  refine ⟨_, rfl, p, c, i * 27 + 27, ns, rfl, P2, hc2, fun b => ⟨_, rfl, ?_⟩⟩
  cases b with
  | true => exact iteF' rfl ⟨⟨_, rfl⟩, by rw [Nat.add_mul, Nat.one_mul]; exact P2, hc2⟩
  | false => exact iteT' rfl (q _)
end

end G0
namespace G0
open PySem PySem.Spec PyProof.Rows L2
/-! ### the whole -/
theorem me_of {P : Program} {w : World} {K : PySem.W.Frag} {mg : Str → Option Value} {base : Heap} {C : Addr} {x qual : Str} {st : Stmt} {k : Nat} {ps : List Str} {sp : Sp}
    (F : Fm K C x qual st) (ok : ∀ f fd, Fun K x qual st f fd → FnOk P w K mg base CX0 k f fd ps sp)
    (bd : ∀ (kV doc pm : Value) (an : Option Addr) (cdv ct : Value) (us : List Value), us.length = ps.length →
      bindArgs (PySem.W.fnOf x qual (defArgs st) (defBody st) (defScope st) .none kV doc pm an cdv ct) ⟨us, []⟩ = pure (ps.zip us)) :
    MeQ P w K mg base C x k ps sp := by
  obtain ⟨f, fd, F, m⟩ := F
  exact ⟨f, fd, ok f fd F, F.binds bd, m⟩
theorem made_of {P : Program} {w : World} {K : PySem.W.Frag} {mg : Str → Option Value} {base : Heap} {C e0 fI : Addr} {fd : FuncData} (T : BlC18 mg) (S : CutT K C)
    (F : FunD K "__init__" "Cut.__init__" (defArgs s_Cut__init) (defBody s_Cut__init) (defScope s_Cut__init) [.ref e0] [] fI fd) (MI : Mk K C fI) (gC : mg "Cut" = some (.ref C)) (emp : ∀ H, SqT K H e0 []) :
    MkCut P w K mg base C ∧ MkCut0 P w K mg base C := by
  have ok := ok_cinit (P := P) (w := w) (base := base) F T S
  obtain ⟨ds1, v1, b1⟩ := F.binds1 (ps := ["self", "rows"]) 1 0 (by simp) rfl (fun T kV doc pm an cdv ct us its h1 h2 => match us, its, h1, h2 with
    | [_], [_], _, _ => ⟨_, rfl, rfl⟩)
  obtain ⟨ds2, v2, b2⟩ := F.binds1 (ps := ["self", "rows"]) 2 1 (by simp) rfl (fun T kV doc pm an cdv ct us its h1 h2 => match us, its, h1, h2 with
    | [_, _], [_], _, _ => ⟨_, rfl, rfl⟩)
  have e2 : ds2 = [] := by
    cases v2
    rfl
  subst e2
  exact ⟨⟨⟨fI, fd, ok, b2, MI⟩, gC⟩, ⟨fI, fd, ds1, e0, ok, b1, v1, MI, emp⟩, gC⟩
theorem whole {P : Program} {w : World} {K : PySem.W.Frag} {mg : Str → Option Value} {base : Heap} {C : Addr} (T : BlR mg) (T2 : BlC18 mg) (T3 : BlS mg) (S : CutT K C) (L : CutL K C) (sf : PySem.W.subIn K (.type "list") (.ref C) = some false)
    (MC : MkCut P w K mg base C) (MC0 : MkCut0 P w K mg base C)
        (F_stretch_text : Fn K mg "_stretch_text" s_stretch_text) (F_law_feed : Fn K mg "_law_feed" s_law_feed) (F_law_more : Fn K mg "_law_more" s_law_more) (F_law_step : Fn K mg "_law_step" s_law_step) (F_law_draw : Fn K mg "_law_draw" s_law_draw) (F_law_same : Fn K mg "_law_same" s_law_same) (F_law_row_list : Fn K mg "_law_row_list" s_law_row_list) (F_law_written : Fn K mg "_law_written" s_law_written) (F_law_is_cut : Fn K mg "_law_is_cut" s_law_is_cut) (F_law_right : Fn K mg "_law_right" s_law_right) (F_law : Fn K mg "law" s_law)
    (M_rows : Fm K C "rows" "Cut.rows" s_Cut_rows) (M_has : Fm K C "has" "Cut.has" s_Cut_has) (M_joined : Fm K C "joined" "Cut.joined" s_Cut_joined) (M_shared : Fm K C "shared" "Cut.shared" s_Cut_shared) (M_len : Fm K C "__len__" "Cut.__len__" s_Cut__len) (M_eq : Fm K C "__eq__" "Cut.__eq__" s_Cut__eq) (M_str : Fm K C "__str__" "Cut.__str__" s_Cut__str) (M_stretches : Fm K C "_stretches" "Cut._stretches" s_Cut_stretches) : Cal P w K mg base "law" 7 ["script"] (spLaw K) := by
  have gC := MC.mg
  have Ro := me_of (P := P) (w := w) (mg := mg) (base := base) (ps := ["self"]) M_rows (fun f fd F => ok_crows F T2 S) (fun _ _ _ _ _ _ us hl => match us, hl with | [_], _ => rfl) 
  have Ha := me_of (P := P) (w := w) (mg := mg) (base := base) (ps := ["self", "row"]) M_has (fun f fd F => ok_chas F S) (fun _ _ _ _ _ _ us hl => match us, hl with | [_, _], _ => rfl) 
  have Le := me_of (P := P) (w := w) (mg := mg) (base := base) (ps := ["self"]) M_len (fun f fd F => ok_clen F T2 S) (fun _ _ _ _ _ _ us hl => match us, hl with | [_], _ => rfl) 
  have Jo := me_of (P := P) (w := w) (mg := mg) (base := base) (ps := ["self", "other"]) M_joined (fun f fd F => ok_cjoin F T2 S MC Ro) (fun _ _ _ _ _ _ us hl => match us, hl with | [_, _], _ => rfl) 
  have Sh := me_of (P := P) (w := w) (mg := mg) (base := base) (ps := ["self", "other"]) M_shared (fun f fd F => ok_cshare F T2 S MC Ha) (fun _ _ _ _ _ _ us hl => match us, hl with | [_, _], _ => rfl) 
  have Eq_ := me_of (P := P) (w := w) (mg := mg) (base := base) (ps := ["self", "other"]) M_eq (fun f fd F => ok_ceq F T2 S L gC) (fun _ _ _ _ _ _ us hl => match us, hl with | [_, _], _ => rfl) 
  have Sr := me_of (P := P) (w := w) (mg := mg) (base := base) (ps := ["self"]) M_stretches (fun f fd F => ok_cstre F T3 S) (fun _ _ _ _ _ _ us hl => match us, hl with | [_], _ => rfl) 
  have St := me_of (P := P) (w := w) (mg := mg) (base := base) (ps := ["self"]) M_str (fun f fd F => ok_cstr F T3 S (ok_cst F_stretch_text T3) Sr) (fun _ _ _ _ _ _ us hl => match us, hl with | [_], _ => rfl) 
  have M : CutM P w K mg base C := ⟨S, L, gC, sf, Ro, Ha, Le, St, Eq_, Jo, Sh⟩
  have S1 := ok_same1 (P := P) (w := w) (base := base) F_law_same T.toBl
  have Dr := ok_draw (P := P) (w := w) (base := base) F_law_draw
  have Ic := ok_iscut F_law_is_cut T.toBl T2 M S1 (ok_same2 F_law_same T.toBl S1) (ok_writ F_law_written T.toBl)
  exact ok_law F_law T MC0 (ok_feed F_law_feed T.toBl) (ok_more F_law_more T.toBl) (ok_step F_law_step T.toBl) Ic (ok_right F_law_right T M MC S1 Dr (ok_rowl F_law_row_list T.toBl Dr) Ic)
theorem all_mk {P : Program} {w : World} {K : PySem.W.Frag} {h : Heap} {mg : Str → Option Value} {fa : Addr}
    {C_Cut : Addr} {f1 : Addr} {od1 an1 : Option Addr} {sl1 : Array (Option Value)} {oc1 kV1 dc1 pm1 cd1 ct1 : Value} {f2 : Addr} {od2 an2 : Option Addr} {sl2 : Array (Option Value)} {oc2 kV2 dc2 pm2 cd2 ct2 : Value} {f3 : Addr} {od3 an3 : Option Addr} {sl3 : Array (Option Value)} {oc3 kV3 dc3 pm3 cd3 ct3 : Value} {f4 : Addr} {od4 an4 : Option Addr} {sl4 : Array (Option Value)} {oc4 kV4 dc4 pm4 cd4 ct4 : Value} {f5 : Addr} {od5 an5 : Option Addr} {sl5 : Array (Option Value)} {oc5 kV5 dc5 pm5 cd5 ct5 : Value} {f6 : Addr} {od6 an6 : Option Addr} {sl6 : Array (Option Value)} {oc6 kV6 dc6 pm6 cd6 ct6 : Value} {f7 : Addr} {od7 an7 : Option Addr} {sl7 : Array (Option Value)} {oc7 kV7 dc7 pm7 cd7 ct7 : Value} {f8 : Addr} {od8 an8 : Option Addr} {sl8 : Array (Option Value)} {oc8 kV8 dc8 pm8 cd8 ct8 : Value} {f9 : Addr} {od9 an9 : Option Addr} {sl9 : Array (Option Value)} {oc9 kV9 dc9 pm9 cd9 ct9 : Value} {f10 : Addr} {od10 an10 : Option Addr} {sl10 : Array (Option Value)} {oc10 kV10 dc10 pm10 cd10 ct10 : Value} {f11 : Addr} {od11 an11 : Option Addr} {sl11 : Array (Option Value)} {oc11 kV11 dc11 pm11 cd11 ct11 : Value} {f12 : Addr} {od12 an12 : Option Addr} {sl12 : Array (Option Value)} {oc12 kV12 dc12 pm12 cd12 ct12 : Value} {f13 : Addr} {od13 an13 : Option Addr} {sl13 : Array (Option Value)} {oc13 kV13 dc13 pm13 cd13 ct13 : Value} {f14 : Addr} {od14 an14 : Option Addr} {sl14 : Array (Option Value)} {oc14 kV14 dc14 pm14 cd14 ct14 : Value} {f15 : Addr} {od15 an15 : Option Addr} {sl15 : Array (Option Value)} {oc15 kV15 dc15 pm15 cd15 ct15 : Value} {f16 : Addr} {od16 an16 : Option Addr} {sl16 : Array (Option Value)} {oc16 kV16 dc16 pm16 cd16 ct16 : Value} {f17 : Addr} {od17 an17 : Option Addr} {sl17 : Array (Option Value)} {oc17 kV17 dc17 pm17 cd17 ct17 : Value} {f18 : Addr} {od18 an18 : Option Addr} {sl18 : Array (Option Value)} {oc18 kV18 dc18 pm18 cd18 ct18 : Value} {f19 : Addr} {od19 an19 : Option Addr} {sl19 : Array (Option Value)} {oc19 kV19 dc19 pm19 cd19 ct19 : Value} {fI TI e0 : Addr} {ocI kVI dcI pmI cdI ctI oT : Value} {odI anI odT odE : Option Addr} {slI slT slE : Array (Option Value)} {nT nE : Nat}
    (X : K.In h) (G : h.Ns mainGlobals mg) (hfa : mg "law" = some (.ref fa))
    (aC_Cut : PySem.W.nsIn K mainGlobals "Cut" = some (some (.ref C_Cut)))
    (pg_Cut : PySem.W.plainGet K C_Cut Str.empty = true)
    (hd_Cut : PySem.W.hasDictIn K C_Cut = true)
    (po_Cut : PySem.W.plainOver K C_Cut = true)
    (sa_Cut : PySem.W.findIn K (.ref C_Cut) "__setattr__" = some (some (.builtin "object.__setattr__")))
    (mk_Cut : PySem.W.makesIn K C_Cut = true)
    (kc_Cut : PySem.W.keepIn K (.ref C_Cut) = true)
    (a1 : PySem.W.nsIn K mainGlobals "_stretch_text" = some (some (.ref f1)))
    (l1 : K.lookup f1 = some ⟨oc1, od1, .func (PySem.W.fnOf "_stretch_text" "_stretch_text" (defArgs s_stretch_text) (defBody s_stretch_text) (defScope s_stretch_text) .none kV1 dc1 pm1 an1 cd1 ct1), sl1⟩)
    (c1 : PySem.W.codeIn K cd1 "_stretch_text" = true)
    (k1 : PySem.W.keepIn K (.ref f1) = true)
    (a2 : PySem.W.nsIn K mainGlobals "_law_feed" = some (some (.ref f2)))
    (l2 : K.lookup f2 = some ⟨oc2, od2, .func (PySem.W.fnOf "_law_feed" "_law_feed" (defArgs s_law_feed) (defBody s_law_feed) (defScope s_law_feed) .none kV2 dc2 pm2 an2 cd2 ct2), sl2⟩)
    (c2 : PySem.W.codeIn K cd2 "_law_feed" = true)
    (k2 : PySem.W.keepIn K (.ref f2) = true)
    (a3 : PySem.W.nsIn K mainGlobals "_law_more" = some (some (.ref f3)))
    (l3 : K.lookup f3 = some ⟨oc3, od3, .func (PySem.W.fnOf "_law_more" "_law_more" (defArgs s_law_more) (defBody s_law_more) (defScope s_law_more) .none kV3 dc3 pm3 an3 cd3 ct3), sl3⟩)
    (c3 : PySem.W.codeIn K cd3 "_law_more" = true)
    (k3 : PySem.W.keepIn K (.ref f3) = true)
    (a4 : PySem.W.nsIn K mainGlobals "_law_step" = some (some (.ref f4)))
    (l4 : K.lookup f4 = some ⟨oc4, od4, .func (PySem.W.fnOf "_law_step" "_law_step" (defArgs s_law_step) (defBody s_law_step) (defScope s_law_step) .none kV4 dc4 pm4 an4 cd4 ct4), sl4⟩)
    (c4 : PySem.W.codeIn K cd4 "_law_step" = true)
    (k4 : PySem.W.keepIn K (.ref f4) = true)
    (a5 : PySem.W.nsIn K mainGlobals "_law_draw" = some (some (.ref f5)))
    (l5 : K.lookup f5 = some ⟨oc5, od5, .func (PySem.W.fnOf "_law_draw" "_law_draw" (defArgs s_law_draw) (defBody s_law_draw) (defScope s_law_draw) .none kV5 dc5 pm5 an5 cd5 ct5), sl5⟩)
    (c5 : PySem.W.codeIn K cd5 "_law_draw" = true)
    (k5 : PySem.W.keepIn K (.ref f5) = true)
    (a6 : PySem.W.nsIn K mainGlobals "_law_same" = some (some (.ref f6)))
    (l6 : K.lookup f6 = some ⟨oc6, od6, .func (PySem.W.fnOf "_law_same" "_law_same" (defArgs s_law_same) (defBody s_law_same) (defScope s_law_same) .none kV6 dc6 pm6 an6 cd6 ct6), sl6⟩)
    (c6 : PySem.W.codeIn K cd6 "_law_same" = true)
    (k6 : PySem.W.keepIn K (.ref f6) = true)
    (a7 : PySem.W.nsIn K mainGlobals "_law_row_list" = some (some (.ref f7)))
    (l7 : K.lookup f7 = some ⟨oc7, od7, .func (PySem.W.fnOf "_law_row_list" "_law_row_list" (defArgs s_law_row_list) (defBody s_law_row_list) (defScope s_law_row_list) .none kV7 dc7 pm7 an7 cd7 ct7), sl7⟩)
    (c7 : PySem.W.codeIn K cd7 "_law_row_list" = true)
    (k7 : PySem.W.keepIn K (.ref f7) = true)
    (a8 : PySem.W.nsIn K mainGlobals "_law_written" = some (some (.ref f8)))
    (l8 : K.lookup f8 = some ⟨oc8, od8, .func (PySem.W.fnOf "_law_written" "_law_written" (defArgs s_law_written) (defBody s_law_written) (defScope s_law_written) .none kV8 dc8 pm8 an8 cd8 ct8), sl8⟩)
    (c8 : PySem.W.codeIn K cd8 "_law_written" = true)
    (k8 : PySem.W.keepIn K (.ref f8) = true)
    (a9 : PySem.W.nsIn K mainGlobals "_law_is_cut" = some (some (.ref f9)))
    (l9 : K.lookup f9 = some ⟨oc9, od9, .func (PySem.W.fnOf "_law_is_cut" "_law_is_cut" (defArgs s_law_is_cut) (defBody s_law_is_cut) (defScope s_law_is_cut) .none kV9 dc9 pm9 an9 cd9 ct9), sl9⟩)
    (c9 : PySem.W.codeIn K cd9 "_law_is_cut" = true)
    (k9 : PySem.W.keepIn K (.ref f9) = true)
    (a10 : PySem.W.nsIn K mainGlobals "_law_right" = some (some (.ref f10)))
    (l10 : K.lookup f10 = some ⟨oc10, od10, .func (PySem.W.fnOf "_law_right" "_law_right" (defArgs s_law_right) (defBody s_law_right) (defScope s_law_right) .none kV10 dc10 pm10 an10 cd10 ct10), sl10⟩)
    (c10 : PySem.W.codeIn K cd10 "_law_right" = true)
    (k10 : PySem.W.keepIn K (.ref f10) = true)
    (a11 : PySem.W.nsIn K mainGlobals "law" = some (some (.ref f11)))
    (l11 : K.lookup f11 = some ⟨oc11, od11, .func (PySem.W.fnOf "law" "law" (defArgs s_law) (defBody s_law) (defScope s_law) .none kV11 dc11 pm11 an11 cd11 ct11), sl11⟩)
    (c11 : PySem.W.codeIn K cd11 "law" = true)
    (k11 : PySem.W.keepIn K (.ref f11) = true)
    (a12 : PySem.W.findIn K (.ref C_Cut) "rows" = some (some (.ref f12)))
    (i12 : PySem.W.isFn K (.ref f12) = true)
    (l12 : K.lookup f12 = some ⟨oc12, od12, .func (PySem.W.fnOf "rows" "Cut.rows" (defArgs s_Cut_rows) (defBody s_Cut_rows) (defScope s_Cut_rows) .none kV12 dc12 pm12 an12 cd12 ct12), sl12⟩)
    (c12 : PySem.W.codeIn K cd12 "Cut.rows" = true)
    (k12 : PySem.W.keepIn K (.ref f12) = true)
    (a13 : PySem.W.findIn K (.ref C_Cut) "has" = some (some (.ref f13)))
    (i13 : PySem.W.isFn K (.ref f13) = true)
    (l13 : K.lookup f13 = some ⟨oc13, od13, .func (PySem.W.fnOf "has" "Cut.has" (defArgs s_Cut_has) (defBody s_Cut_has) (defScope s_Cut_has) .none kV13 dc13 pm13 an13 cd13 ct13), sl13⟩)
    (c13 : PySem.W.codeIn K cd13 "Cut.has" = true)
    (k13 : PySem.W.keepIn K (.ref f13) = true)
    (a14 : PySem.W.findIn K (.ref C_Cut) "joined" = some (some (.ref f14)))
    (i14 : PySem.W.isFn K (.ref f14) = true)
    (l14 : K.lookup f14 = some ⟨oc14, od14, .func (PySem.W.fnOf "joined" "Cut.joined" (defArgs s_Cut_joined) (defBody s_Cut_joined) (defScope s_Cut_joined) .none kV14 dc14 pm14 an14 cd14 ct14), sl14⟩)
    (c14 : PySem.W.codeIn K cd14 "Cut.joined" = true)
    (k14 : PySem.W.keepIn K (.ref f14) = true)
    (a15 : PySem.W.findIn K (.ref C_Cut) "shared" = some (some (.ref f15)))
    (i15 : PySem.W.isFn K (.ref f15) = true)
    (l15 : K.lookup f15 = some ⟨oc15, od15, .func (PySem.W.fnOf "shared" "Cut.shared" (defArgs s_Cut_shared) (defBody s_Cut_shared) (defScope s_Cut_shared) .none kV15 dc15 pm15 an15 cd15 ct15), sl15⟩)
    (c15 : PySem.W.codeIn K cd15 "Cut.shared" = true)
    (k15 : PySem.W.keepIn K (.ref f15) = true)
    (a16 : PySem.W.findIn K (.ref C_Cut) "__len__" = some (some (.ref f16)))
    (i16 : PySem.W.isFn K (.ref f16) = true)
    (l16 : K.lookup f16 = some ⟨oc16, od16, .func (PySem.W.fnOf "__len__" "Cut.__len__" (defArgs s_Cut__len) (defBody s_Cut__len) (defScope s_Cut__len) .none kV16 dc16 pm16 an16 cd16 ct16), sl16⟩)
    (c16 : PySem.W.codeIn K cd16 "Cut.__len__" = true)
    (k16 : PySem.W.keepIn K (.ref f16) = true)
    (a17 : PySem.W.findIn K (.ref C_Cut) "__eq__" = some (some (.ref f17)))
    (i17 : PySem.W.isFn K (.ref f17) = true)
    (l17 : K.lookup f17 = some ⟨oc17, od17, .func (PySem.W.fnOf "__eq__" "Cut.__eq__" (defArgs s_Cut__eq) (defBody s_Cut__eq) (defScope s_Cut__eq) .none kV17 dc17 pm17 an17 cd17 ct17), sl17⟩)
    (c17 : PySem.W.codeIn K cd17 "Cut.__eq__" = true)
    (k17 : PySem.W.keepIn K (.ref f17) = true)
    (a18 : PySem.W.findIn K (.ref C_Cut) "__str__" = some (some (.ref f18)))
    (i18 : PySem.W.isFn K (.ref f18) = true)
    (l18 : K.lookup f18 = some ⟨oc18, od18, .func (PySem.W.fnOf "__str__" "Cut.__str__" (defArgs s_Cut__str) (defBody s_Cut__str) (defScope s_Cut__str) .none kV18 dc18 pm18 an18 cd18 ct18), sl18⟩)
    (c18 : PySem.W.codeIn K cd18 "Cut.__str__" = true)
    (k18 : PySem.W.keepIn K (.ref f18) = true)
    (a19 : PySem.W.findIn K (.ref C_Cut) "_stretches" = some (some (.ref f19)))
    (i19 : PySem.W.isFn K (.ref f19) = true)
    (l19 : K.lookup f19 = some ⟨oc19, od19, .func (PySem.W.fnOf "_stretches" "Cut._stretches" (defArgs s_Cut_stretches) (defBody s_Cut_stretches) (defScope s_Cut_stretches) .none kV19 dc19 pm19 an19 cd19 ct19), sl19⟩)
    (c19 : PySem.W.codeIn K cd19 "Cut._stretches" = true)
    (k19 : PySem.W.keepIn K (.ref f19) = true)
    (n_Cut__rows : PySem.W.findIn K (.ref C_Cut) "_rows" = some none)
    (n_Cut__held : PySem.W.findIn K (.ref C_Cut) "_held" = some none)
    (y1 : PySem.W.findIn K (.ref C_Cut) "__init__" = some (some (.ref fI)))
    (y2 : PySem.W.isFn K (.ref fI) = true)
    (y3 : K.lookup fI = some ⟨ocI, odI, .func (PySem.W.fnOf "__init__" "Cut.__init__" (defArgs s_Cut__init) (defBody s_Cut__init) (defScope s_Cut__init) (.ref TI) kVI dcI pmI anI cdI ctI), slI⟩)
    (y4 : PySem.W.codeIn K cdI "Cut.__init__" = true)
    (y5 : K.lookup TI = some ⟨oT, odT, .seq #[.ref e0] nT, slT⟩)
    (y6 : K.lookup e0 = some ⟨.type "tuple", odE, .seq #[] nE, slE⟩)
    (y7 : PySem.W.keepIn K (.ref fI) = true)
    (n20 : PySem.W.findIn K (.ref C_Cut) "__class__" = some (some (.builtin "object.__class__")))
    (w23 : PySem.W.specialIn K (.builtin "object.__class__") "__get__" = some (some (.builtin "getset_descriptor.__get__")))
    (w24 : PySem.W.takesIn K (.builtin "object.__class__") = some true)
    (w25 : PySem.W.mroIn K C_Cut (.type "object") = some true)
    (w26 : PySem.W.kitOne K (.type "list") (.ref C_Cut) = some false)
    (w27 : PySem.W.subIn K (.type "list") (.ref C_Cut) = some false)
    (b_len : PySem.W.nsIn K mainGlobals "len" = some none)
    (b_range : PySem.W.nsIn K mainGlobals "range" = some none)
    (b_sorted : PySem.W.nsIn K mainGlobals "sorted" = some none)
    (b_set : PySem.W.nsIn K mainGlobals "set" = some none)
    (b_tuple : PySem.W.nsIn K mainGlobals "tuple" = some none)
    (b_list : PySem.W.nsIn K mainGlobals "list" = some none)
    (b_isinstance : PySem.W.nsIn K mainGlobals "isinstance" = some none)
    (b_int : PySem.W.nsIn K mainGlobals "int" = some none)
    (b_bool : PySem.W.nsIn K mainGlobals "bool" = some none)
    (b_str : PySem.W.nsIn K mainGlobals "str" = some none)
    (b_abs : PySem.W.nsIn K mainGlobals "abs" = some none)
    (b_zip : PySem.W.nsIn K mainGlobals "zip" = some none)
    (b_all : PySem.W.nsIn K mainGlobals "all" = some none) :
    ∃ fd : FuncData, (∀ (s : Shared) (v : Value), BindsTo s fd ⟨[v], []⟩ [("script", v)]) ∧
      ∀ base : Heap, K.In base → base.Ns mainGlobals mg → FnG P w K mg base CX0 7 fa fd ["script"] (spLaw K) := by
  have F_stretch_text : Fn K mg "_stretch_text" s_stretch_text := fn_top X G a1 l1 c1 k1
  have F_law_feed : Fn K mg "_law_feed" s_law_feed := fn_top X G a2 l2 c2 k2
  have F_law_more : Fn K mg "_law_more" s_law_more := fn_top X G a3 l3 c3 k3
  have F_law_step : Fn K mg "_law_step" s_law_step := fn_top X G a4 l4 c4 k4
  have F_law_draw : Fn K mg "_law_draw" s_law_draw := fn_top X G a5 l5 c5 k5
  have F_law_same : Fn K mg "_law_same" s_law_same := fn_top X G a6 l6 c6 k6
  have F_law_row_list : Fn K mg "_law_row_list" s_law_row_list := fn_top X G a7 l7 c7 k7
  have F_law_written : Fn K mg "_law_written" s_law_written := fn_top X G a8 l8 c8 k8
  have F_law_is_cut : Fn K mg "_law_is_cut" s_law_is_cut := fn_top X G a9 l9 c9 k9
  have F_law_right : Fn K mg "_law_right" s_law_right := fn_top X G a10 l10 c10 k10
  have F_law : Fn K mg "law" s_law := fn_top X G a11 l11 c11 k11
  have M_Cut_rows : Fm K C_Cut "rows" "Cut.rows" s_Cut_rows := fm_top a12 i12 l12 c12 k12
  have M_Cut_has : Fm K C_Cut "has" "Cut.has" s_Cut_has := fm_top a13 i13 l13 c13 k13
  have M_Cut_joined : Fm K C_Cut "joined" "Cut.joined" s_Cut_joined := fm_top a14 i14 l14 c14 k14
  have M_Cut_shared : Fm K C_Cut "shared" "Cut.shared" s_Cut_shared := fm_top a15 i15 l15 c15 k15
  have M_Cut__len : Fm K C_Cut "__len__" "Cut.__len__" s_Cut__len := fm_top a16 i16 l16 c16 k16
  have M_Cut__eq : Fm K C_Cut "__eq__" "Cut.__eq__" s_Cut__eq := fm_top a17 i17 l17 c17 k17
  have M_Cut__str : Fm K C_Cut "__str__" "Cut.__str__" s_Cut__str := fm_top a18 i18 l18 c18 k18
  have M_Cut_stretches : Fm K C_Cut "_stretches" "Cut._stretches" s_Cut_stretches := fm_top a19 i19 l19 c19 k19
  have B_len := PySem.W.mg_none_of X G b_len
  have B_range := PySem.W.mg_none_of X G b_range
  have B_sorted := PySem.W.mg_none_of X G b_sorted
  have B_set := PySem.W.mg_none_of X G b_set
  have B_tuple := PySem.W.mg_none_of X G b_tuple
  have B_list := PySem.W.mg_none_of X G b_list
  have B_isinstance := PySem.W.mg_none_of X G b_isinstance
  have B_int := PySem.W.mg_none_of X G b_int
  have B_bool := PySem.W.mg_none_of X G b_bool
  have B_str := PySem.W.mg_none_of X G b_str
  have B_abs := PySem.W.mg_none_of X G b_abs
  have B_zip := PySem.W.mg_none_of X G b_zip
  have B_all := PySem.W.mg_none_of X G b_all
  have T_Cut : Cls K C_Cut := ⟨pg_Cut, hd_Cut, po_Cut, sa_Cut⟩
  have G_Cut := PySem.W.mg_of X G aC_Cut
  have S : CutT K C_Cut := ⟨T_Cut, n_Cut__rows, n_Cut__held⟩
  have T2 : BlC18 mg := ⟨B_len, B_list, B_sorted, B_set, B_isinstance⟩
  have FD : FunD K "__init__" "Cut.__init__" (defArgs s_Cut__init) (defBody s_Cut__init) (defScope s_Cut__init) [.ref e0] [] fI _ := ⟨⟨ocI, odI, .ref TI, kVI, dcI, pmI, anI, cdI, ctI, slI, rfl, y3, y4, .inr ⟨by simp, TI, _, [.ref e0], nT, rfl, y5, rfl, .cons rfl .nil⟩, .inl rfl⟩, y7⟩
  have MM := fun base => made_of (P := P) (w := w) (base := base) T2 S FD ⟨mk_Cut, y1, y2, kc_Cut⟩ G_Cut (fun H => .inr ⟨_, #[], nE, y6, rfl, rfl, Nat.zero_le _, .nil⟩)
  exact law_end F_law hfa (fun _ _ _ _ _ _ s v => .of_eq rfl) fun base _ _ => whole ⟨⟨B_len, B_range, B_tuple, B_list, B_abs, B_int, B_isinstance, B_bool, B_str, B_all⟩, B_sorted, B_set⟩ T2 ⟨B_len, B_list, B_str, B_zip⟩ S ⟨n20, w23, w24, w25, w26⟩ w27 (MM base).1 (MM base).2
    F_stretch_text F_law_feed F_law_more F_law_step F_law_draw F_law_same F_law_row_list F_law_written F_law_is_cut F_law_right F_law
    M_Cut_rows M_Cut_has M_Cut_joined M_Cut_shared M_Cut__len M_Cut__eq M_Cut__str M_Cut_stretches
end G0
open PySem PySem.W PyProof.Rows in
set_option maxRecDepth 100000 in
set_option maxHeartbeats 0 in
set_option pp.maxSteps 20 in
theorem PySem.Challenge.cw_soleseat_k18_cuts_holds : PySem.Challenge.rw_soleseat_k18_cuts.Holds := by
  w_on; o_law; k_head; (case hw => w_witness2)
  k_fill
  refine G0.walk_ofG (l := PySem.Challenge.rw_soleseat_k18_cuts) (n := 63) (k := 7) (x := "script") (sp := G0.spLaw) rfl (by decide) rfl ⟨rfl, by decide, by decide⟩ (fun w h Y => PySem.W.kIn_of Y) ?F (fun K H a ns hl _ hS => ⟨a, ns, rfl, hS, hl, fun _ => rfl⟩)
  case F =>
    intro w mg fa h KX G hmg
    refine' G0.all_mk KX G hmg ?aC_Cut ?pg_Cut ?hd_Cut ?po_Cut ?sa_Cut ?mk_Cut ?kc_Cut ?a1 ?l1 ?c1 ?k1 ?a2 ?l2 ?c2 ?k2 ?a3 ?l3 ?c3 ?k3 ?a4 ?l4 ?c4 ?k4 ?a5 ?l5 ?c5 ?k5 ?a6 ?l6 ?c6 ?k6 ?a7 ?l7 ?c7 ?k7 ?a8 ?l8 ?c8 ?k8 ?a9 ?l9 ?c9 ?k9 ?a10 ?l10 ?c10 ?k10 ?a11 ?l11 ?c11 ?k11 ?a12 ?i12 ?l12 ?c12 ?k12 ?a13 ?i13 ?l13 ?c13 ?k13 ?a14 ?i14 ?l14 ?c14 ?k14 ?a15 ?i15 ?l15 ?c15 ?k15 ?a16 ?i16 ?l16 ?c16 ?k16 ?a17 ?i17 ?l17 ?c17 ?k17 ?a18 ?i18 ?l18 ?c18 ?k18 ?a19 ?i19 ?l19 ?c19 ?k19 ?n_Cut__rows ?n_Cut__held ?y1 ?y2 ?y3 ?y4 ?y5 ?y6 ?y7 ?n20 ?w23 ?w24 ?w25 ?w26 ?w27 ?b_len ?b_range ?b_sorted ?b_set ?b_tuple ?b_list ?b_isinstance ?b_int ?b_bool ?b_str ?b_abs ?b_zip ?b_all
    (case aC_Cut => k_is)
    (case pg_Cut => k_is)
    (case hd_Cut => k_is)
    (case po_Cut => k_is)
    (case sa_Cut => k_is)
    (case mk_Cut => k_is)
    (case kc_Cut => k_is)
    (case a1 => k_is)
    (case l1 => k_is)
    (case c1 => k_is)
    (case k1 => k_is)
    (case a2 => k_is)
    (case l2 => k_is)
    (case c2 => k_is)
    (case k2 => k_is)
    (case a3 => k_is)
    (case l3 => k_is)
    (case c3 => k_is)
    (case k3 => k_is)
    (case a4 => k_is)
    (case l4 => k_is)
    (case c4 => k_is)
    (case k4 => k_is)
    (case a5 => k_is)
    (case l5 => k_is)
    (case c5 => k_is)
    (case k5 => k_is)
    (case a6 => k_is)
    (case l6 => k_is)
    (case c6 => k_is)
    (case k6 => k_is)
    (case a7 => k_is)
    (case l7 => k_is)
    (case c7 => k_is)
    (case k7 => k_is)
    (case a8 => k_is)
    (case l8 => k_is)
    (case c8 => k_is)
    (case k8 => k_is)
    (case a9 => k_is)
    (case l9 => k_is)
    (case c9 => k_is)
    (case k9 => k_is)
    (case a10 => k_is)
    (case l10 => k_is)
    (case c10 => k_is)
    (case k10 => k_is)
    (case a11 => k_is)
    (case l11 => k_is)
    (case c11 => k_is)
    (case k11 => k_is)
    (case a12 => k_is)
    (case i12 => k_is)
    (case l12 => k_is)
    (case c12 => k_is)
    (case k12 => k_is)
    (case a13 => k_is)
    (case i13 => k_is)
    (case l13 => k_is)
    (case c13 => k_is)
    (case k13 => k_is)
    (case a14 => k_is)
    (case i14 => k_is)
    (case l14 => k_is)
    (case c14 => k_is)
    (case k14 => k_is)
    (case a15 => k_is)
    (case i15 => k_is)
    (case l15 => k_is)
    (case c15 => k_is)
    (case k15 => k_is)
    (case a16 => k_is)
    (case i16 => k_is)
    (case l16 => k_is)
    (case c16 => k_is)
    (case k16 => k_is)
    (case a17 => k_is)
    (case i17 => k_is)
    (case l17 => k_is)
    (case c17 => k_is)
    (case k17 => k_is)
    (case a18 => k_is)
    (case i18 => k_is)
    (case l18 => k_is)
    (case c18 => k_is)
    (case k18 => k_is)
    (case a19 => k_is)
    (case i19 => k_is)
    (case l19 => k_is)
    (case c19 => k_is)
    (case k19 => k_is)
    (case n_Cut__rows => k_is)
    (case n_Cut__held => k_is)
    (case y1 => k_is)
    (case y2 => k_is)
    (case y3 => k_is)
    (case y4 => k_is)
    (case y5 => k_is)
    (case y6 => k_is)
    (case y7 => k_is)
    (case n20 => k_is)
    (case w23 => first | k_is | exact rfl | decide +kernel)
    (case w24 => first | k_is | exact rfl | decide +kernel)
    (case w25 => first | k_is | exact rfl | decide +kernel)
    (case w26 => first | k_is | exact rfl | decide +kernel)
    (case w27 => first | k_is | exact rfl | decide +kernel)
    (case b_len => k_is)
    (case b_range => k_is)
    (case b_sorted => k_is)
    (case b_set => k_is)
    (case b_tuple => k_is)
    (case b_list => k_is)
    (case b_isinstance => k_is)
    (case b_int => k_is)
    (case b_bool => k_is)
    (case b_str => k_is)
    (case b_abs => k_is)
    (case b_zip => k_is)
    (case b_all => k_is)
#print axioms PySem.Challenge.cw_soleseat_k18_cuts_holds
namespace G0

end G0
