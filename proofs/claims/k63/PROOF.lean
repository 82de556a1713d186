import PyProof.Rows.All
import Wide.All
import OpenK.AllK
import Wide.FinOn
import HandS.ForMost
import HandS.Wide
import HandS.Conv
import HandS.TupAny
import HandS.Deep
import HandS.Steps
import HandS.NoneIn
import HandS.IsInst
import HandS.More
import HandS.Defaults
import HandS.Small
import HandS.TupLe
import HandS.Deep
import HandS.DeepEq
import HandS.TupSets
import HandS.EndBits
import HandS.WideBits
import HandS.Gcd
import HandS.SortInts
import HandS.Style
import HandS.AnyAll
import HandS.Wide
import HandS.More
import HandS.Nested
import HandS.ExcInit
import HandS.ExcSuper
import HandS.ClsMeth
import KE.KSuper
import KE.KExcSuper
import HandS.IsInst
import HandS.MakeKwOnly
import HandS.Conv
import HandS.ExcOwn
import HandS.ExcIs
import HandS.ExcField
import KE.KExcIs
import HandS.HotCalls
import HandS.WordsExc
import HandS.TryOnly
import HandS.SetBool
import HandS.SetFor
import HandS.Strs
import HandS.SetKeys
import HandS.Dict
import HandS.Conv
import PySem.Challenge.RW_soleseat_k63_votes_in_hand
set_option Elab.async false
set_option maxRecDepth 100000
set_option maxHeartbeats 1000000
set_option linter.all false
/-! Calls where nothing is under repr around: the layer's defs, with one premise more (no guard around). -/
namespace G0
open PySem PySem.Spec PyProof.Rows L2
structure FnG (P : Program) (w : World) (K : PySem.W.Frag) (mg : Str → Option Value) (base : Heap) (CX : CXT)
    (k : Nat) (f : Addr) (fd : FuncData) (ps : List Str) (sp : Sp) : Prop where
  args : ∀ zs G R W, sp zs G R W → zs.length = ps.length
  runs : ∀ (B : Around) (around : List Env) (t : Shared) (G : Hp) (given : Args) (bound : List Value) (zs : List V) (R : VK) (W : XK),
    B.guards = some [] → Room k B → Env0 P w K mg base B around t G →
    BindsTo t fd given (ps.zip bound) → Vals zs bound → sp zs G R W →
    codeAny (model P w) B (.call (.ref f) given) (CR CX around P w G t R W) t
theorem FnG.of {P : Program} {w : World} {K : PySem.W.Frag} {mg : Str → Option Value} {base : Heap} {CX : CXT}
    {k : Nat} {f : Addr} {fd : FuncData} {ps : List Str} {sp : Sp} (F : FnOk P w K mg base CX k f fd ps sp) :
    FnG P w K mg base CX k f fd ps sp :=
  ⟨F.len, fun B around t G given bound zs R W _ hr => F.run B around t G given bound zs R W hr⟩
theorem FnG.mono {P : Program} {w : World} {K : PySem.W.Frag} {mg : Str → Option Value} {base : Heap} {CX : CXT}
    {j k : Nat} {f : Addr} {fd : FuncData} {ps : List Str} {sp : Sp} (F : FnG P w K mg base CX j f fd ps sp) (h : j ≤ k) :
    FnG P w K mg base CX k f fd ps sp :=
  ⟨F.args, fun B around t G given bound zs R W hg hr => F.runs B around t G given bound zs R W hg (hr.mono h)⟩
section
variable {X : Cx} {CX : CXT} {k : Nat} {f : Addr} {fd : FuncData} {ps : List Str} {sp : Sp}
  {dvs : List V} {ds : List Value} {E : XK} {x : Str} {p pos : Pos} {e : Expr} {es : List Expr} {t : TA}
theorem goes {pins : List (Addr × Obj)} {σ : L2.St} {H : Hp} {s : Shared} {Q : VK} {us : List Value} {vs : List V}
    (F : FnG X.prog X.w X.K X.mg X.base CX k f fd ps sp) (free : X.A.guards = some []) (hr : Room k X.A)
    (hb : Binds X.K fd ps ds) (hd : Vals dvs ds) (hx : Passes CX X E)
    (I : Inv X pins σ H s) (r : Vals vs us) (h : sp (vs ++ dvs) H Q E) :
    wpAny (model X.prog X.w) X.A (call (.ref f) us) (EP X pins σ Q) X.xe s := by
  have both : Vals (vs ++ dvs) (us ++ ds) := r.append hd
  have many : (us ++ ds).length = ps.length := both.length.symm.trans (F.args _ _ _ _ h)
  have it := F.runs X.A X.stack s H ⟨us, []⟩ (us ++ ds) (vs ++ dvs) Q E free hr I.env0 (hb s us I.kIn many) both h
  refine wpAny_call (codeAny_mono it fun out s' told => ?_)
  match out, told with
  | .error e, told => exact hx pins σ H s e s' I told
  | .ok (.ret u), told => exact I.after told
  | .ok .next, told => exact told.elim
  | .ok .brk, told => exact told.elim
  | .ok .cont, told => exact told.elim
theorem pe_callG (F : FnG X.prog X.w X.K X.mg X.base CX k f fd ps sp) (free : X.A.guards = some []) (hr : Room k X.A)
    (hg : Gl X x) (hm : X.mg x = some (.ref f)) (hk : PySem.W.keepIn X.K (.ref f) = true)
    (hb : Binds X.K fd ps ds) (hd : Vals dvs ds) (hx : Passes CX X E) (ha : PA X (e :: es) t)
    (n1 : (x == ("__debug__" : Str)) = false := by decide)
    (n2 : starEach (e :: es) X.env = (false, eval e X.env) :: starEach es X.env := by rfl)
    (n3 : (backTo pos (starEach es X.env)).any (·.1) = false := by rfl) :
    PE X (.Call (.Name x p) (e :: es) [] pos) (tCall sp dvs E t) :=
  ⟨fun pins s σ H Q I h => wpAny_Call_Name_kw (ld_glob I hg hm
    (PySem.W.callWith_K (h₀ := X.base) I.ok.mod.kin hk
      (thn (ha.run pos pins s σ H _ I h) fun us s1 ⟨vs, H1, I1, r, q⟩ =>
        ⟨I1.kIn, goes F free hr hb hd hx I1 r q⟩) n2 n3) n1)⟩
end
/-- a def's body, where nothing is under repr -/
theorem fnG_of {CX : CXT} {P : Program} {w : World} {K : PySem.W.Frag} {mg : Str → Option Value} {base : Heap} {k : Nat}
    {f : Addr} {name qual : Str} {params : Arguments} {body : List Stmt} {scope : Scope} {dV kV doc pm cdv ct oc : Value}
    {an od : Option Addr} {osl : Array (Option Value)} {N ps : List Str} {sp : Sp}
    (lk : K.lookup f = some ⟨oc, od, .func (PySem.W.fnOf name qual params body scope dV kV doc pm an cdv ct), osl⟩)
    (coded : PySem.W.codeIn K cdv qual = true) (S : FnScope N ps scope)
    (len : ∀ zs G R W, sp zs G R W → zs.length = ps.length)
    (inner : ∀ (B : Around) (around : List Env) (t : Shared) (G : Hp) (zs : List V) (R : VK) (W : XK), B.guards = some [] →
      Room k (B.deeper (envOfC qual scope t.heap.objs.size f cdv)) → sp zs G R W →
      ∃ tb, PSs (cxOf CX P w K mg base N qual scope f cdv B around t G W) body tb ∧
        tb { nx := fun _ G' => R .non G', rt := R } (start N zs) G) :
    FnG P w K mg base CX (k + 1) f (PySem.W.fnOf name qual params body scope dV kV doc pm an cdv ct) ps sp := by
  refine ⟨len, fun B around t G given bound zs R W free room e0 bd rel asked => ?_⟩
  have many := len _ _ _ _ asked
  have KX : K.In t.heap := e0.mod.kin.keeps fun b o z => (e0.bs b o z).1
  have lim : t.heap.NoLimit := e0.mod.nolimit.keeps fun b o z => (e0.bs b o z).1
  have kinds : ∀ y ∈ ps.zip bound, scope.names.lookup y.1 = some .local ∨
      (scope.names.lookup y.1 = some .cell ∧ ((cellsFrom (t.heap.objs.size + 1) scope.names []).lookup y.1).isSome = true) := by
    intro y hy
    cases S.par y.1 (List.of_mem_zip hy).1 with
    | inl q => exact .inl q
    | inr q => exact .inr ⟨q, PySem.W.cellsFrom_some _ _ _ (.inl q)⟩
  refine codeAny_call_function room.depth (KX _ _ lk) rfl S.co S.gen rfl (PySem.W.codeRec_of KX coded) (bd _ _ _ _ ?_)
  refine wpAny_newFunctionEnv_cells S.kind kinds fun env same t1 made => ?_
  subst same
  refine ⟨lim.keeps made.toInCall.keep, codeAny_func ?_⟩
  obtain ⟨tb, derived, holds⟩ := inner B around t G zs R W free (room.deeper _) asked
  have J : Inv (cxOf CX P w K mg base N qual scope f cdv B around t G W) [] (start N zs) G t1 :=
    inv_start S room.hd e0 many rel made
  refine wpAny_mono (derived.run [] t1 (start N zs) G _ J holds) (fun fl t' told => ?_) fun e t' told => told
  match fl, told with
  | .ret u, ⟨v, σ', G', J', rv, q⟩ => exact ⟨v, G', J'.os, J'.bare, J'.base, J'.hok, rv, q⟩
  | .next, ⟨σ', G', J', q⟩ => exact ⟨V.non, G', J'.os, J'.bare, J'.base, J'.hok, (rfl : Value.none = Value.none), q⟩
  | .brk, ⟨_, _, _, q⟩ => exact q.elim
  | .cont, ⟨_, _, _, q⟩ => exact q.elim
theorem okG {P : Program} {w : World} {K : PySem.W.Frag} {mg : Str → Option Value} {base : Heap} {x qual : Str} {st : Stmt}
    {f : Addr} {fd : FuncData} {N ps : List Str} {k : Nat} {sp : Sp} (F : Fun K x qual st f fd) (S : FnScope N ps (defScope st))
    (len : ∀ zs G R W, sp zs G R W → zs.length = ps.length)
    (inner : ∀ (cdv : Value) (B : Around) (around : List Env) (t : Shared) (G : Hp) (zs : List V) (R : VK) (W : XK), B.guards = some [] →
      Room k (B.deeper (envOfC qual (defScope st) t.heap.objs.size f cdv)) → sp zs G R W →
      ∃ tb, PSs (cxOf CX0 P w K mg base N qual (defScope st) f cdv B around t G W).nox (defBody st) tb ∧
        tb { nx := fun _ G' => R .non G', rt := R } (start N zs) G) :
    FnG P w K mg base CX0 (k + 1) f fd ps sp := by
  obtain ⟨oc, od, kV, doc, pm, an, cdv, ct, osl, rfl, lk, coded⟩ := F.ex
  refine fnG_of lk coded S len fun B around t G zs R W free room asked => ?_
  obtain ⟨tb, derived, holds⟩ := inner cdv B around t G zs R W free room asked
  exact ⟨tb, derived.nox, holds⟩
/-- the law's own call -/
theorem law_callG {P : Program} {w : World} {K : PySem.W.Frag} {mg mb : Str → Option Value} {CX : CXT} {k : Nat} {fa a : Addr}
    {fd : FuncData} {x : Str} {sp : Sp} {s₁ : Shared} {vs : List Value} {ns : List Int}
    (KX : K.In s₁.heap) (gl : s₁.heap.Ns mainGlobals mg) (bl : s₁.heap.Ns builtinsNs mb)
    (boot : ∀ x : Str, x ≠ "__name__" → mb x = bootBuiltins x) (lim : s₁.heap.NoLimit) (nogens : s₁.gens = #[])
    (at_ : s₁.heap.get? a = some { cls := .type "list", data := .seq vs.toArray }) (nums : IntsAre vs ns) (short : ns.length ≤ sizeLine)
    (room : Room k callerA)
    (F : ∀ base : Heap, K.In base → base.Ns mainGlobals mg → FnG P w K mg base CX k fa fd [x] sp)
    (bound : ∀ (s : Shared) (u : Value), BindsTo s fd ⟨[u], []⟩ [(x, u)])
    (asked : ∀ H : Hp, Only H → SqL K H a (ns.map V.int) → sp [.ref a] H (fun v _ => v = .bl true) fun _ _ _ => False)
    (never : ∀ H e s', CX [] H s₁ (fun _ _ _ => False) e s' → False) :
    codeAny (model P w) callerA (.call (.ref fa) ⟨[.ref a], []⟩)
      (fun r s' => r = .ok (.ret (.bool true)) ∧ OldK s₁.heap s'.heap ∧ s'.os = s₁.os ∧ AllBare s'.gens) s₁ := by
  have rel := vals_ints nums
  have many := nums.length
  have from_ : ∀ H : Hp, Only H → SqL K H a (ns.map V.int) → HOk P w H s₁.heap → (∀ b, H b ≠ none → b = a) →
      (H a ≠ none → K.lookup a = none) → codeAny (model P w) callerA (.call (.ref fa) ⟨[.ref a], []⟩)
        (fun r s' => r = .ok (.ret (.bool true)) ∧ OldK s₁.heap s'.heap ∧ s'.os = s₁.os ∧ AllBare s'.gens) s₁ := by
    intro H only seq fine one away
    have down : ∀ {b : Addr} {o : Obj}, s₁.heap.get? b = some o → H b = none →
      (hidT s₁.heap H).get? b = some o := fun e n => hidT_get e n
    have untracked : ∀ {b : Addr} {o : Obj}, s₁.heap.get? b = some o → (b = a → False) → H b = none := by
      intro b o _ n
      by_cases q : H b = none
      · exact q
      · exact (n (one b q)).elim
    have nodict : ∀ {b : Addr} {o : Obj} {es : Array DictEntry} {ep : Nat},
        s₁.heap.get? b = some o → o.data = .dict es ep → H b = none := by
      intro b o es ep e d
      refine untracked e fun q => ?_
      rw [q, at_] at e
      have e' := Option.some.inj e
      rw [← e'] at d
      have d' : Data.seq vs.toArray _ = Data.dict es ep := d
      exact absurd d' (fun h => by cases h)
    have spaces : ∀ {b : Addr} {m : Str → Option Value}, s₁.heap.Ns b m → (hidT s₁.heap H).Ns b m := by
      intro b m ns
      obtain ⟨o, es, ep, e, d, r⟩ := ns
      exact ⟨o, es, ep, down e (nodict e d), d, r⟩
    have written : K.In (hidT s₁.heap H) := by
      intro b o e
      refine down (KX b o e) ?_
      by_cases q : H b = none
      · exact q
      · have same := one b q
        rw [same] at q e
        rw [away q] at e
        cases e
    have md : Mod K mg (hidT s₁.heap H) := by
      obtain ⟨mc, h1, h2⟩ := lim
      exact ⟨written, spaces gl, ⟨mb, spaces bl, boot⟩, ⟨mc, spaces h1, h2⟩⟩
    have e0 : Env0 P w K mg (hidT s₁.heap H) callerA [] s₁ H :=
      ⟨rfl, md, fun b o e => of_hidT e, Nat.le_of_eq (hidT_size _ _), trivial,
        fun b hb => (List.not_mem_nil (show b ∈ ([] : List Addr) from hb)).elim, fine, .of_eq nogens⟩
    have it := (F _ written (spaces gl)).runs callerA [] s₁ H ⟨[.ref a], []⟩ [.ref a] [.ref a] _ _ rfl room e0
      (bound s₁ (.ref a)) (.cons rfl .nil) (asked H only seq)
    refine codeAny_mono it fun out s' told => ?_
    match out, told with
    | .error e, told => exact (never H e s' told).elim
    | .ok .next, told => exact told.elim
    | .ok .brk, told => exact told.elim
    | .ok .cont, told => exact told.elim
    | .ok (.ret u), ⟨v, H', os, bare, un, fine', r', q⟩ =>
      have q' : v = .bl true := q
      subst q'
      have u' : u = Value.bool true := r'
      subst u'
      refine ⟨rfl, OldK.of_keep fun b o e => ?_, os, bare⟩
      cases q : H b with
      | none => exact un.keep b o e q (fun z => (List.not_mem_nil (show b ∈ ([] : List Addr) from z)).elim) (List.not_mem_nil)
      | some u =>
        rcases only b with z | ⟨ob, xs, z⟩
        · have z1 := q.symm.trans z
          cases z1
        · have z' := un.frzs b ob _ z
          have e1 := (fine b _ z).1
          have e2 := (fine' b _ z').1
          exact e2.trans (e1.symm.trans e)
  cases known : K.lookup a with
  | some o =>
    have e := (KX a o known).symm.trans at_
    have e' := Option.some.inj e
    subst e'
    refine from_ (fun _ => none) (fun _ => .inl rfl) (.inr ⟨_, vs.toArray, _, known, rfl, rfl, rfl, ?_, ?_⟩)
      (fun b u z => by have z1 : (none : Option HO) = some u := z; cases z1) (fun b z => (z rfl).elim) fun z => (z rfl).elim
    · rw [List.size_toArray, many]; exact short
    · simpa using rel
  | none =>
    have self : (fun b => if b = a then some (HO.frz { cls := .type "list", data := .seq vs.toArray } (.lst (ns.map V.int))) else none) a
        = some (HO.frz { cls := .type "list", data := .seq vs.toArray } (.lst (ns.map V.int))) := if_pos rfl
    refine from_ (fun b => if b = a then some (HO.frz { cls := .type "list", data := .seq vs.toArray } (.lst (ns.map V.int))) else none)
      (fun b => ?_) (.inl (.inr ⟨_, self⟩)) (fun b u z => ?_) (fun b z => ?_) fun _ => known
    · by_cases same : b = a
      · exact .inr ⟨_, _, if_pos same⟩
      · exact .inl (if_neg same)
    · by_cases same : b = a
      · subst same
        have z' := Option.some.inj ((if_pos rfl).symm.trans z)
        subst z'
        exact ⟨at_, by rw [List.length_map]; exact short, vs, _, rel, at_⟩
      · have z1 := (if_neg same).symm.trans z
        cases z1
    · by_cases same : b = a
      · exact same
      · exact (z (if_neg same)).elim
theorem walk_ofG {l : PySem.W.OpenLaw} {n k : Nat} {q : Program} {loose : List Str} {XP : (Str → Option Value) → Heap → Prop}
    {YP : World → Heap → Prop} {d : DefRec} {K : Params → PySem.W.Frag} {sp : PySem.W.Frag → Sp} {x : Str}
    (hn : l.most = some n) (hn2 : n ≤ sizeLine) (hdf : d.params.defaults = []) (room : Room k callerA)
    (hY : ∀ (w : World) (h : Heap), YP w h → (K w.params).In h)
    (F : ∀ (w : World) (mg : Str → Option Value) (fa : Addr) (h : Heap), (K w.params).In h → h.Ns mainGlobals mg →
      mg d.name = some (.ref fa) → ∃ fd : FuncData, (∀ (s : Shared) (u : Value), BindsTo s fd ⟨[u], []⟩ [(x, u)]) ∧
        ∀ base : Heap, (K w.params).In base → base.Ns mainGlobals mg →
          FnG l.prog w (K w.params) mg base CX0 k fa fd [x] (sp (K w.params)))
    (asked : ∀ (K : PySem.W.Frag) (H : Hp) (a : Addr) (ns : List Int), ns.length ≤ n → Only H → SqL K H a (ns.map V.int) →
      sp K [.ref a] H (fun v _ => v = .bl true) fun _ _ _ => False) :
    PySem.W.WalkO q loose XP YP l.row.toRowW d [] (fun f vs => PySem.call f vs) := by
  refine Att.attach_call hn hdf fun w s₀ s₁ mg mb fa o pm cd doc a vs ns G Y ho hd hcd named obj nums few nogens => ?_
  have KX := hY w _ Y
  obtain ⟨fd, bound, all⟩ := F w mg fa _ KX G.T.g named
  exact law_callG KX G.T.g G.T.b G.T.builtins G.T.nolimit nogens obj nums (Nat.le_trans few hn2) room all bound
    (fun H only seq => asked _ H a ns few only seq) fun H e s' z => z
end G0
namespace G0
open PySem PySem.Spec PyProof.Rows L2
/-! ### a def of the module's top, by its name (no word of guards: for laws without repr) -/
def Fn (K : PySem.W.Frag) (mg : Str → Option Value) (x : Str) (st : Stmt) : Prop :=
  ∃ f fd, Fun K x x st f fd ∧ mg x = some (.ref f)
def Cal (P : Program) (w : World) (K : PySem.W.Frag) (mg : Str → Option Value) (base : Heap) (x : Str) (k : Nat) (ps : List Str) (sp : Sp) : Prop :=
  ∃ f fd, FnOk P w K mg base CX0 k f fd ps sp ∧ Binds K fd ps [] ∧ mg x = some (.ref f) ∧ PySem.W.keepIn K (.ref f) = true ∧
    ∃ oc od osl, K.lookup f = some ⟨oc, od, .func fd, osl⟩
theorem fn_top {K : PySem.W.Frag} {h : Heap} {mg : Str → Option Value} {x : Str} {st : Stmt} {f : Addr} {oc : Value} {od an : Option Addr}
    {osl : Array (Option Value)} {kV doc pm cdv ct : Value} (X : K.In h) (G : h.Ns mainGlobals mg)
    (a : PySem.W.nsIn K mainGlobals x = some (some (.ref f)))
    (l : K.lookup f = some ⟨oc, od, .func (PySem.W.fnOf x x (defArgs st) (defBody st) (defScope st) .none kV doc pm an cdv ct), osl⟩)
    (c : PySem.W.codeIn K cdv x = true) (k : PySem.W.keepIn K (.ref f) = true) : Fn K mg x st :=
  ⟨f, _, fun_mk l c k, PySem.W.mg_of X G a⟩
/-- a method of the class at C -/
def Fm (K : PySem.W.Frag) (C : Addr) (x qual : Str) (st : Stmt) : Prop := ∃ f fd, Fun K x qual st f fd ∧ Meth K C x f
theorem fm_top {K : PySem.W.Frag} {C : Addr} {x qual : Str} {st : Stmt} {f : Addr} {oc : Value} {od an : Option Addr}
    {osl : Array (Option Value)} {kV doc pm cdv ct : Value}
    (a : PySem.W.findIn K (.ref C) x = some (some (.ref f))) (i : PySem.W.isFn K (.ref f) = true)
    (l : K.lookup f = some ⟨oc, od, .func (PySem.W.fnOf x qual (defArgs st) (defBody st) (defScope st) .none kV doc pm an cdv ct), osl⟩)
    (c : PySem.W.codeIn K cdv qual = true) (k : PySem.W.keepIn K (.ref f) = true) : Fm K C x qual st :=
  ⟨f, _, fun_mk l c k, ⟨a, i, k⟩⟩
section
variable {P : Program} {w : World} {K : PySem.W.Frag} {mg : Str → Option Value} {base : Heap}
theorem cal_of {x : Str} {st : Stmt} {N ps : List Str} {k : Nat} {sp : Sp} (F : Fn K mg x st) (S : FnScope N ps (defScope st))
    (bd : ∀ (kV doc pm : Value) (an : Option Addr) (cdv ct : Value) (us : List Value), us.length = ps.length →
      bindArgs (PySem.W.fnOf x x (defArgs st) (defBody st) (defScope st) .none kV doc pm an cdv ct) ⟨us, []⟩ = pure (ps.zip us))
    (len : ∀ zs G R W, sp zs G R W → zs.length = ps.length)
    (inner : ∀ (f : Addr) (cdv : Value) (B : Around) (around : List Env) (t : Shared) (G : Hp) (zs : List V) (R : VK) (W : XK), True →
      Room k (B.deeper (envOfC x (defScope st) t.heap.objs.size f cdv)) → sp zs G R W →
      ∃ tb, PSs (cxOf CX0 P w K mg base N x (defScope st) f cdv B around t G W).nox (defBody st) tb ∧
        tb { nx := fun _ G' => R .non G', rt := R } (start N zs) G) :
    Cal P w K mg base x (k + 1) ps sp := by
  obtain ⟨f, fd, F, m⟩ := F
  obtain ⟨oc, od, kV, doc, pm, an, cdv, ct, osl, e, lk, c⟩ := id F.ex
  exact ⟨f, fd, F.ok S len (fun cdv B around t G zs R W room h => inner f cdv B around t G zs R W True.intro room h), F.binds bd, m, F.kp, oc, od, osl, lk⟩
theorem Cal.mono {x : Str} {j k : Nat} {ps : List Str} {sp : Sp} (C : Cal P w K mg base x j ps sp) (h : j ≤ k) : Cal P w K mg base x k ps sp := by
  obtain ⟨f, fd, F, r⟩ := C
  exact ⟨f, fd, F.mono h, r⟩
/-- the law itself, at the end -/
theorem law_end {st : Stmt} {k : Nat} {sp : Sp} {fa : Addr} (F : Fn K mg "law" st) (hm : mg "law" = some (.ref fa))
    (bt : ∀ (kV doc pm : Value) (an : Option Addr) (cdv ct : Value) (s : Shared) (v : Value),
      BindsTo s (PySem.W.fnOf "law" "law" (defArgs st) (defBody st) (defScope st) .none kV doc pm an cdv ct) ⟨[v], []⟩ [("script", v)])
    (C : ∀ base : Heap, K.In base → base.Ns mainGlobals mg → Cal P w K mg base "law" k ["script"] sp) :
    ∃ fd : FuncData, (∀ (s : Shared) (v : Value), BindsTo s fd ⟨[v], []⟩ [("script", v)]) ∧
      ∀ base : Heap, K.In base → base.Ns mainGlobals mg → FnG P w K mg base CX0 k fa fd ["script"] sp := by
  obtain ⟨f, fd, F, m⟩ := F
  obtain ⟨oc, od, kV, doc, pm, an, cdv, ct, osl, e, lk, c⟩ := id F.ex
  have ef := m.symm.trans hm
  cases ef
  refine ⟨fd, fun s v => by rw [e]; exact bt _ _ _ _ _ _ s v, fun base kin ns => ?_⟩
  obtain ⟨f', fd', G, _, m', _, oc', od', osl', lk'⟩ := C base kin ns
  have ef := m.symm.trans m'
  cases ef
  have ed := lk.symm.trans lk'
  cases ed
  exact FnG.of G
end
section
variable {X : Cx} {k : Nat} {ps : List Str} {sp : Sp} {x : Str} {p pos : Pos} {e : Expr} {es : List Expr} {t : TA}
theorem pe_cal (C : Cal X.prog X.w X.K X.mg X.base x k ps sp) (free : True) (hr : Room k X.A)
    (ha : PA X (e :: es) t) (hg : Gl X x := by rfl) (n1 : (x == ("__debug__" : Str)) = false := by decide)
    (n2 : starEach (e :: es) X.env = (false, eval e X.env) :: starEach es X.env := by rfl)
    (n3 : (backTo pos (starEach es X.env)).any (·.1) = false := by rfl) (hx : Passes CX0 X E0 := by exact pass0) :
    PE X (.Call (.Name x p) (e :: es) [] pos) (tCall sp [] E0 t) := by
  obtain ⟨f, fd, F, b, m, kp, _⟩ := C
  exact pe_call F hr hg m kp b .nil hx ha n1 n2 n3
/-! ### repr of data -/
def rRep (K : PySem.W.Frag) : List V → Hp → VK → Prop := fun xs H Q => ∃ (x : V) (d : PyData), xs = [x] ∧ Dp K H x d ∧
  d.showable = true ∧ d.hasDict = false ∧ d.depth ≤ 64 ∧ d.shown.length ≤ sizeLine ∧ Q (.str d.shown) H
theorem call_rep (free : X.A.guards = some []) (hu : X.A.units + 66 < cLine) : CallR X (.builtin "repr") (rRep X.K) := by
  intro pins s σ H xs us Q I r h
  obtain ⟨x, d, rfl, hd, hs, hn, h64, hz, q⟩ := h
  obtain ⟨u, rfl, rx⟩ := vals1 r
  have viaRef : ∀ (a : Addr), x = .ref a → wpAny (model X.prog X.w) X.A (call (.builtin "repr") [u]) (EP X pins σ Q) X.xe s := by
    intro a e
    subst e
    obtain rfl : u = Value.ref a := rx
    obtain ⟨as, rd⟩ := Dp.reads I d _ _ hd (rfl : RelV (.ref a) (.ref a))
    exact repr_of_reads' rd hs (PyData.noDict_hsm hn) free (by omega) (fun _ _ e => e)
      (fun h' w t kp => ⟨.str d.shown, H, I.kept (t' := t) kp, ⟨_, rfl⟩, q⟩) hz
  cases hd with
  | non =>
    obtain rfl : u = Value.none := rx
    exact PySem.P.repr_of_none ⟨.str _, H, I.tok _, ⟨_, rfl⟩, by simpa only [PyData.shown] using q⟩
  | bl b =>
    obtain rfl : u = Value.bool b := rx
    exact PySem.P.repr_of_bool ⟨.str _, H, I.tok _, ⟨_, rfl⟩, by simpa only [PyData.shown] using q⟩
  | int i =>
    obtain ⟨t, rfl⟩ := rx
    exact PySem.P.repr_of_int (by simpa [PyData.showable] using hs) ⟨.str _, H, I.tok _, ⟨_, rfl⟩, by simpa only [PyData.shown] using q⟩
  | str z =>
    obtain ⟨t, rfl⟩ := rx
    exact PySem.P.repr_of_str ⟨.str _, H, I.tok _, ⟨_, rfl⟩, by simpa only [PyData.shown] using q⟩ (by simpa only [PyData.shown] using hz)
  | lst _ _ => exact viaRef _ rfl
  | tup _ _ => exact viaRef _ rfl
/-! ### operators of several kinds in one -/
theorem u_eq (hu : X.A.units + 64 < cLine) : OpR X (compareOp .Eq) (fun x y H Q => rEq x y H Q ∨ rEqD X.K x y H Q) := op_eq.or (op_eqD hu)
theorem u_ne (hu : X.A.units + 64 < cLine) : OpR X (compareOp .NotEq) (fun x y H Q => rNe x y H Q ∨ rNeD X.K x y H Q) := op_ne.or (op_neD hu)
theorem u_in : OpR X (compareOp .In) (fun x y H Q => rIn X.K false x y H Q ∨ rInS x y H Q) := op_in_seq.or op_inS
theorem u_notin : OpR X (compareOp .NotIn) (fun x y H Q => rIn X.K true x y H Q ∨ rNotInS x y H Q) := op_notIn_seq.or op_notInS
end
theorem pe_fldK {X : Cx} {e : Expr} {f : Str} {pos : Pos} {ta : TE} (K : PySem.W.Frag) (ha : PE X e ta) (hK : X.K = K := by rfl)
    (hb : attributeBase e f X.env (eval e X.env) = eval e X.env := by rfl) : PE X (.Attribute e f pos) (tFld K ta f) := by
  subst hK
  exact pe_fld ha hb
/-! ### the written part named, for what stands within a comprehension -/
theorem op_K {X : Cx} {f : Value → Value → Sem Value} (r : PySem.W.Frag → R2) (K : PySem.W.Frag) (ho : OpR X f (r X.K)) (hK : X.K = K) : OpR X f (r K) := hK ▸ ho
theorem ix_K {X : Cx} (r : PySem.W.Frag → R2) (K : PySem.W.Frag) (ho : IxR X (r X.K)) (hK : X.K = K) : IxR X (r K) := hK ▸ ho
theorem call_K {X : Cx} {f : Value} (r : PySem.W.Frag → List V → Hp → VK → Prop) (K : PySem.W.Frag) (ho : CallR X f (r X.K)) (hK : X.K = K) : CallR X f (r K) := hK ▸ ho
section
variable {X : Cx} (K : PySem.W.Frag)
theorem u_inK (hK : X.K = K := by rfl) : OpR X (compareOp .In) (fun x y H Q => rIn K false x y H Q ∨ rInS x y H Q) := op_K (fun K x y H Q => rIn K false x y H Q ∨ rInS x y H Q) K u_in hK
theorem u_notinK (hK : X.K = K := by rfl) : OpR X (compareOp .NotIn) (fun x y H Q => rIn K true x y H Q ∨ rNotInS x y H Q) := op_K (fun K x y H Q => rIn K true x y H Q ∨ rNotInS x y H Q) K u_notin hK
theorem ix_listK (hK : X.K = K := by rfl) : IxR X (rIxL K) := ix_K rIxL K ix_list hK
theorem ix_tupK (hK : X.K = K := by rfl) : IxR X (rIxT K) := ix_K rIxT K ix_tup hK
theorem ix_seqK (hK : X.K = K := by rfl) : IxR X (rIx K) := ix_K rIx K ix_seq hK
theorem call_len_seqK (hK : X.K = K := by rfl) : CallR X (.builtin "len") (fun xs H Q => ∃ p ys, xs = [.ref p] ∧ (SqL K H p ys ∨ SqT K H p ys) ∧ Q (.int ys.length) H) :=
  call_K (fun K xs H Q => ∃ p ys, xs = [.ref p] ∧ (SqL K H p ys ∨ SqT K H p ys) ∧ Q (.int ys.length) H) K call_len_seq hK
end
/-! ### what changes: one list -/
/-- all that is tracked but p stays -/
def Chg (p : Addr) (H H' : Hp) : Prop := ∀ b o, b ≠ p → H b = some o → H' b = some o
theorem Chg.refl (p : Addr) (H : Hp) : Chg p H H := fun _ _ _ e => e
theorem Chg.trans {p : Addr} {H H1 H2 : Hp} (a : Chg p H H1) (b : Chg p H1 H2) : Chg p H H2 := fun c o n e => b c o n (a c o n e)
theorem Chg.self {p : Addr} {H : Hp} {o : HO} : Chg p H (upd H p o) := fun b u n e => by rw [upd_ne n]; exact e
theorem Chg.new {p q : Addr} {H H1 : Hp} {o : HO} (a : Chg p H H1) (n : H1 q = none) : Chg p H (upd H1 q o) := fun b u m e => by
  rw [upd_ne (ne_of_none (a b u m e) n)]; exact a b u m e
theorem Chg.same {p : Addr} {H H1 : Hp} (a : Same H H1) : Chg p H H1 := fun b o _ e => a b o e
theorem same_upd {H : Hp} {q : Addr} {o : HO} (n : H q = none) : Same H (upd H q o) := fun b u e => by
  rw [upd_ne (ne_of_none e n)]; exact e
/-! ### a law's draws: the pot -/
def PotL (n : Nat) (xs : List V) : Prop := ∃ a b c : Int, xs = [.int a, .int b, .int c] ∧ 0 ≤ a ∧ 0 ≤ b ∧ b < 2305843009213693951 ∧ 0 ≤ c ∧ c ≤ n
def PotAt (n : Nat) (H : Hp) (p : Addr) : Prop := ∃ xs, H p = some (.lst xs) ∧ PotL n xs
theorem PotL.mono {n m : Nat} {xs : List V} (h : PotL n xs) (le : n ≤ m) : PotL m xs := by
  obtain ⟨a, b, c, e, h1, h2, h3, h4, h5⟩ := h
  exact ⟨a, b, c, e, h1, h2, h3, h4, by omega⟩
theorem PotAt.mono {n m : Nat} {H : Hp} {p : Addr} (h : PotAt n H p) (le : n ≤ m) : PotAt m H p := by
  obtain ⟨xs, e, h⟩ := h
  exact ⟨xs, e, h.mono le⟩
theorem PotAt.keep {n : Nat} {H H' : Hp} {p : Addr} (h : PotAt n H p) (s : Same H H') : PotAt n H' p := by
  obtain ⟨xs, e, h⟩ := h
  exact ⟨xs, s _ _ e, h⟩
theorem PotAt.at {n : Nat} {H : Hp} {p : Addr} {xs : List V} (h : PotL n xs) : PotAt n (upd H p (.lst xs)) p := ⟨xs, upd_same, h⟩
end G0
/-! Wide powers, the law's own call with the script's bits told, len of an own object, sorted of a tuple of tuples of ints. -/
namespace G0
open PySem PySem.Spec PyProof.Rows L2
def CPowB (i j : Int) : Prop := 0 ≤ j ∧ (Builtin.Int.intBits i : Int) * j ≤ 2 ^ 27
theorem op_powB {X : Cx} : OpR X (binaryOp .Pow) (rI CPowB fun i j => .int (i ^ j.toNat)) := opI fun _ _ _ _ _ _ _ hc q => pow_int hc.1 hc.2 q
theorem walk_ofGB {l : PySem.W.OpenLaw} {n k : Nat} {q : Program} {loose : List Str} {XP : (Str → Option Value) → Heap → Prop}
    {YP : World → Heap → Prop} {d : DefRec} {K : Params → PySem.W.Frag} {sp : PySem.W.Frag → Sp} {x : Str}
    (hn : l.most = some n) (hn2 : n ≤ sizeLine) (hdf : d.params.defaults = []) (room : Room k callerA)
    (hY : ∀ (w : World) (h : Heap), YP w h → (K w.params).In h)
    (F : ∀ (w : World) (mg : Str → Option Value) (fa : Addr) (h : Heap), (K w.params).In h → h.Ns mainGlobals mg →
      mg d.name = some (.ref fa) → ∃ fd : FuncData, (∀ (s : Shared) (u : Value), BindsTo s fd ⟨[u], []⟩ [(x, u)]) ∧
        ∀ base : Heap, (K w.params).In base → base.Ns mainGlobals mg →
          FnG l.prog w (K w.params) mg base CX0 k fa fd [x] (sp (K w.params)))
    (asked : ∀ (K : PySem.W.Frag) (H : Hp) (a : Addr) (ns : List Int), ns.length ≤ n → (∀ z ∈ ns, Builtin.Int.intBits z ≤ 1048576) → Only H → SqL K H a (ns.map V.int) →
      sp K [.ref a] H (fun v _ => v = .bl true) fun _ _ _ => False) :
    PySem.W.WalkO q loose XP YP l.row.toRowW d [] (fun f vs => PySem.call f vs) := by
  refine Att.attach_callB hn hdf fun w s₀ s₁ mg mb fa o pm cd doc a vs ns G Y ho hd hcd named obj nums few bits nogens => ?_
  have KX := hY w _ Y
  obtain ⟨fd, bound, all⟩ := F w mg fa _ KX G.T.g named
  exact law_callG KX G.T.g G.T.b G.T.builtins G.T.nolimit nogens obj nums (Nat.le_trans few hn2) room all bound
    (fun H only seq => asked _ H a ns few bits only seq) fun H e s' z => z
/-! ### len of an own object -/
section
variable {X : Cx} {CX : CXT} {k : Nat} {f C : Addr} {fd : FuncData} {ps : List Str} {sp : Sp} {dvs : List V} {ds : List Value} {E : XK}
theorem run_fn1 {pins : List (Addr × Obj)} {σ : L2.St} {H : Hp} {s : Shared} {Q : VK} {us : List Value} {vs : List V}
    (F : FnOk X.prog X.w X.K X.mg X.base CX k f fd ps sp) (hr : Room (k + 1) X.A) (hb : Binds X.K fd ps ds) (hd : Vals dvs ds) (hx : Passes CX X E)
    (I : Inv X pins σ H s) (r : Vals vs us) (h : sp (vs ++ dvs) H Q E) : wpAny (model X.prog X.w) X.A.in1 (call (.ref f) us) (EP X pins σ Q) X.xe s := by
  have r2 : Vals (vs ++ dvs) (us ++ ds) := r.append hd
  have hl : (us ++ ds).length = ps.length := by rw [← r2.length]; exact F.len _ _ _ _ h
  refine wpAny_call (codeAny_mono (F.run X.A.in1 X.stack s H ⟨us, []⟩ (us ++ ds) (vs ++ dvs) Q E hr.in1 I.env0.in1 (hb s us I.kIn hl) r2 h) fun r s' hq => ?_)
  cases r with
  | error e => exact hx pins σ H s e s' I hq
  | ok fl =>
    cases fl with
    | ret u => exact I.after hq
    | next => exact False.elim hq
    | brk => exact False.elim hq
    | cont => exact False.elim hq
def rLenOwn (C : Addr) (sp : Sp) (E : XK) : List V → Hp → VK → Prop := fun xs H Q => ∃ (a dx : Addr) (fs : List (Str × V)), xs = [.ref a] ∧ H a = some (.ins C dx fs) ∧
  sp [.ref a] H (fun v H2 => ∃ n : Nat, v = .int n ∧ n ≤ sizeLine ∧ Q (.int n) H2) E
theorem call_lenOwn (hm : Meth X.K C "__len__" f) (F : FnOk X.prog X.w X.K X.mg X.base CX k f fd ps sp) (hr : Room (k + 1) X.A) (hb : Binds X.K fd ps []) (hx : Passes CX X E) :
    CallR X (.builtin "len") (rLenOwn C sp E) := by
  intro pins s σ H xs us Q I r h
  obtain ⟨a, dx, fs, rfl, e, q⟩ := h
  obtain ⟨u, rfl, ru⟩ := vals1 r
  obtain rfl : u = Value.ref a := ru
  obtain ⟨mA, O, _, _, _, _⟩ := ins_get I.hok e
  obtain ⟨od, ho, _⟩ := lookIn_ns O.ns
  have IA : PySem.W.InstAt s.heap a (PySem.W.instObj C dx) C (some od) := ⟨O.obj, rfl, rfl, ho⟩
  refine Calls.call_function_entry kind_len plain_len entry_len (args_len1 _) ?_
  unfold Builtin.«len»
  refine wpAny_bind (m := oneArg "len" _) (wpAny_pure ?_)
  refine wpAny_bind (m := callSpecial? (.ref a) (Str.ofString "__len__")) (PySem.W.special_fn I.kIn IA hm.at_ (beq_iff_eq.mp hm.fn)
    (wpAny_mono (run_fn1 (us := [.ref a]) (vs := [.ref a]) F hr hb .nil hx I (.cons rfl .nil) q) (fun r s' hr' => ?_) fun _ _ y => y))
  obtain ⟨v, H', I', rv, n, rfl, hn, q'⟩ := hr'
  obtain ⟨t, rfl⟩ := (show ∃ t, r = Value.int n t from rv)
  rw [sizeLine_eq] at hn
  refine wpAny_bind (wpAny_holding (wpAny_pure ?_))
  refine wpAny_bind (wpAny_letGo ?_)
  show wpAny _ _ (if ((n : Nat) : Int) < 0 then _ else _) _ _ _
  rw [if_neg (by omega)]
  show wpAny _ _ (if ((n : Nat) : Int) ≥ 2 ^ 63 then _ else _) _ _ _
  rw [if_neg (by omega)]
  exact wpAny_bind (wpAny_mkInt (wpAny_pure ⟨_, rfl, .int n, H', I'.tok _, ⟨_, rfl⟩, q'⟩))
end
/-! ### sorted of a tuple of tuples of ints -/
section
variable {prog : Program} {w : World} {A : Around} {E : Value → Shared → Prop} {s : Shared}
theorem collect_tup {l : Addr} {vs : List Value} {Q : List Value → Shared → Prop} (hl : IsTup s.heap l vs.toArray)
    (h : Q vs { s with heap := (s.heap.push (seqObj "list" #[] 0)).update s.heap.objs.size (Obj.mapSeq (· ++ vs.toArray)) }) (hsz : vs.length ≤ sizeLine) :
    wpAny (model prog w) A (collect (.ref l)) Q E s := by
  obtain ⟨o, ho, hc, n, hd⟩ := id hl
  unfold collect
  refine wpAny_bind (wpAny_runValue (codeAny_builtin entry_proto_collect' ?_))
  show wpAny _ _ (do again (.builtin "list.__iadd__" ⟨[← newList [], .ref l], []⟩)) _ _ s
  refine wpAny_bind (wpAny_newList (wpAny_pure ⟨Code.quiet_builtin _ (by decide +kernel), codeAny_builtin entry_list_iadd' ?_⟩))
  show wpAny _ _ (Builtin.List.listExtendWith (.ref s.heap.objs.size) (.ref l) (.ref s.heap.objs.size)) _ _ { s with heap := s.heap.push (seqObj "list" #[] 0) }
  unfold Builtin.List.listExtendWith
  have ho' : (s.heap.push (seqObj "list" #[] 0)).get? l = some o := Heap.get?_push_of_some _ ho
  refine wpAny_bind (wpAny_typeOf (T := "tuple") ⟨o, ho', hc⟩ ?_)
  have ht : (Value.type "tuple" == Value.type "tuple") = true := by rfl
  rw [if_pos (by rw [ht]; simp)]
  refine wpAny_bind (listItems_at ho' hd ?_)
  refine wpAny_bind (listItems_at (xs := #[]) (n := 0) (Heap.get?_push_size _ rfl) rfl ?_)
  rw [if_neg (by simp)]
  refine wpAny_bind (listUpdate_at (xs := #[]) (n := 0) (Heap.get?_push_size _ rfl) rfl ?_ (Nat.zero_le _) (by show (#[] ++ vs.toArray).size ≤ sizeLine + 1; simp only [Array.size_append, List.size_toArray, List.length_nil]; omega))
  refine wpAny_pure ?_
  show wpAny (model prog w) A (do
      let o ← load s.heap.objs.size
      match o.data with
      | .seq xs _ => pure xs.toList
      | _ => unsupported "internal:collect") Q E { s with heap := (s.heap.push (seqObj "list" #[] 0)).update s.heap.objs.size (Obj.mapSeq (· ++ vs.toArray)) }
  refine wpAny_bind (wpAny_load (get?_update_seq (Heap.get?_push_size _ rfl) _) ?_)
  show wpAny _ _ (pure ((#[] : Array Value) ++ vs.toArray).toList) Q E _
  rw [show ((#[] : Array Value) ++ vs.toArray).toList = vs by simp]
  exact wpAny_pure h
open TS in
theorem sorted_tupsT {l : Addr} {vs : List Value} {d : Nat} {B : Int} {Q : Value → Shared → Prop} (hl : IsTup s.heap l vs.toArray) (h64 : vs.length < 64) (hd : 1 ≤ d) (x : TupsOk s.heap d B vs)
    (h : ∀ out : Array Value, out.toList.Perm vs → out.toList.Pairwise (fun u v => code B (intsOf s.heap u) ≤ code B (intsOf s.heap v)) → Q (.ref (s.heap.objs.size + 1)) { s with heap := sortedAll s.heap vs out }) :
    wpAny (model prog w) A (call (.builtin "sorted") [.ref l]) Q E s := by
  refine Calls.call_function_entry kind_sorted plain_sorted entry_sorted (args_sorted1 _) ?_
  unfold Builtin.«sorted»
  refine wpAny_bind (m := checkCount "sorted" 1 1 _) (wpAny_pure ?_)
  refine wpAny_bind (collect_tup hl ?_ (by rw [sizeLine_eq]; omega))
  refine wpAny_bind (wpAny_newList ?_ (by rw [sizeLine_eq]; omega))
  have hsz : ((s.heap.push (seqObj "list" #[] 0)).update s.heap.objs.size (Obj.mapSeq (· ++ vs.toArray))).objs.size = s.heap.objs.size + 1 := by
    rw [Heap.size_update, size_push']
  have hoL : (((s.heap.push (seqObj "list" #[] 0)).update s.heap.objs.size (Obj.mapSeq (· ++ vs.toArray))).push (seqObj "list" vs.toArray 0)).get? (s.heap.objs.size + 1) = some (seqObj "list" vs.toArray 0) := by
    rw [← hsz]; exact Heap.get?_push_size _ rfl
  have keep : ∀ b o, s.heap.get? b = some o → o.cls = .type "tuple" → (((s.heap.push (seqObj "list" #[] 0)).update s.heap.objs.size (Obj.mapSeq (· ++ vs.toArray))).push (seqObj "list" vs.toArray 0)).get? b = some o := fun b o q _ => by
    have hlt : b < s.heap.objs.size := Heap.lt_size q
    rw [Heap.get?_push_ne _ _ _ (by rw [hsz]; exact Nat.ne_of_lt (Nat.lt_succ_of_lt hlt)), Heap.get?_update_ne _ _ _ _ (Nat.ne_of_lt hlt), Heap.get?_push_ne _ _ _ (Nat.ne_of_lt hlt)]
    exact q
  show wpAny _ _ _ _ _ { s with heap := ((s.heap.push (seqObj "list" #[] 0)).update s.heap.objs.size (Obj.mapSeq (· ++ vs.toArray))).push (seqObj "list" vs.toArray 0) }
  rw [hsz]
  refine wpAny_bind (wpAny_holding (wpAny_call_entry slot_list_sort ⟨_, hoL, rfl⟩ entry_list_sort (sort_tups hoL h64 hd (x.keeps keep) (fun v => code B (intsOf s.heap v)) (fun v hv ns t => ?_) fun out a1 a2 => ⟨_, rfl, ?_⟩) (args_list_sort _)))
  · obtain ⟨ns0, t0, _⟩ := x v hv
    have e : ns = ns0 := t.ints.symm.trans (t0.keeps keep).ints
    rw [e]
    show code B (intsOf s.heap v) = code B ns0
    rw [t0.ints]
  · exact wpAny_pure ⟨_, rfl, h out a1 a2⟩
end
def rSortUT (K : PySem.W.Frag) (d : Nat) (B : Int) : List V → Hp → VK → Prop := fun vs H Q => ∃ (a : Addr) (xs : List V), vs = [V.ref a] ∧ SqT K H a xs ∧ xs.length < 64 ∧ (∀ x ∈ xs, ∃ ns, TupI K H x ns ∧ ns.length = d ∧ TS.Bd B ns) ∧
  ∀ (ys : List V) (p : Addr), ys.Perm xs → ys.Pairwise (fun x y => ∀ n m, TupI K H x n → TupI K H y m → TS.code B n ≤ TS.code B m) → H p = none → Q (.ref p) (upd H p (.lst ys))
theorem cr_sortTT {X : Cx} {d : Nat} {B : Int} (hd : 1 ≤ d) : CallR X (.builtin "sorted") (rSortUT X.K d B) := by
  intro pins s σ H vs us Q I r h
  obtain ⟨a, xs, rfl, hs, h64, hx, q⟩ := h
  obtain ⟨its, rv, hl, hz⟩ := I.tuple hs
  rw [Vals.ref1 r]
  obtain ⟨e1, e2⟩ := bkV_refs rv fun x m => by
    obtain ⟨ns, ⟨t, e, _⟩, _⟩ := hx x m
    exact ⟨t, e⟩
  refine sorted_tupsT (d := d) (B := B) hl (by rw [← rv.length]; exact h64) hd (fun v hv => ?_) fun out h1 h2 => ?_
  · obtain ⟨t, rfl⟩ := e2 v hv
    have hm : V.ref t ∈ xs := by
      rw [e1]
      exact List.mem_map.mpr ⟨_, hv, rfl⟩
    obtain ⟨ns, ⟨t', e, ht⟩, hn, hb⟩ := hx _ hm
    cases e
    exact ⟨ns, tupI_raw I ht, hn, hb⟩
  · obtain ⟨ep, he'⟩ := PyProof.Rows.sortedAll_at s.heap its out
    have h3 : ∀ u ∈ out.toList, ∃ a, u = Value.ref a := fun u hu => e2 u (h1.mem_iff.mp hu)
    have hp : (out.toList.map bkV).Perm xs := by
      rw [e1]
      exact h1.map bkV
    have hlen : (out.toList.map bkV).length ≤ sizeLine := by
      rw [hp.length_eq]
      exact hz
    refine ⟨.ref _, upd H (s.heap.objs.size + 1) (.lst (out.toList.map bkV)), I.laid (t' := s.toks) (fun _ _ => PyProof.Rows.sortedAll_old) (Nat.le_succ _) ⟨hlen, out.toList, ep, bkV_vals h3, he'⟩, rfl, q _ _ hp ?_ (I.hok.fresh (Nat.le_succ _))⟩
    rw [List.pairwise_map]
    refine List.Pairwise.imp (fun {u v} huv n m hn hm => ?_) h2
    obtain ⟨t, et, ht⟩ := hn
    obtain ⟨t', et', ht'⟩ := hm
    have eu := bkV_ref et
    have ev := bkV_ref et'
    have i1 : TS.intsOf s.heap u = n := by
      rw [eu]
      exact (tupI_raw I ht).ints
    have i2 : TS.intsOf s.heap v = m := by
      rw [ev]
      exact (tupI_raw I ht').ints
    rw [← i1, ← i2]
    exact huv
end G0
namespace G0
open PySem PySem.Spec PyProof.Rows L2 PpSet
/-! ### set comprehensions, whatever goes into the set: the new set is A.made where it is laid, A.put says when y may go in and what is there behind it -/
structure Into (X : Cx) where
  made : Addr → HO
  put : Addr → V → Hp → (Hp → Prop) → Prop
  laid : ∀ (h : Heap) (H : Hp), ObjOk X.prog X.w H (h.push { cls := .type "set", dict := none, data := .set #[] 0 (.fresh 0 0 (!X.w.params.followText "set-order")) }) h.objs.size (made h.objs.size)
  added : ∀ (s0 : Shared) (H0 : Hp) (sc : Scope) (ce : Env) (fp : List Addr) (pins : List (Addr × Obj)) (σ : L2.St) (H : Hp) (s : Shared) (D : Addr) (y : V) (v : Value) (N : Hp → Prop), Inv (X.blk s0 H0 sc ce fp) pins σ H s → RelV y v → put D y H N →
    ∀ E : Value → Shared → Prop, wpAny (model X.prog X.w) X.A (call (.builtin "set.add") [.ref D, v]) (fun _ s' => ∃ H', Inv (X.blk s0 H0 sc ce fp) pins σ H' s' ∧ N H') E s
section
variable {X : Cx}
def tScG (A : Into X) (wi : TI) (g : TG) (tt : TT) (te : TE) (vs : List Nat) : TE := fun σ H Q => wi σ H fun J H1 => ∀ D, H1 D = none → ∃ W : Nat → Nat → Hp → Prop, (∃ m, W 0 m (upd H1 D (A.made D))) ∧ ∀ i m G, W i m G →
  (J.stop i G ∧ Q (.ref D) G) ∨ (J.go i G ∧ ∃ Nx : Hp → Prop, (∀ G', Nx G' → ∃ m', m' < m ∧ W (i + 1) m' G') ∧ ∀ x G', J.yld i G x G' → g x (wipe σ vs) G' fun σ2 H2 => wipe σ2 vs = wipe σ vs ∧ tt σ2 H2 fun b H3 =>
    if b = true then te σ2 H3 fun y H4 => A.put D y H4 Nx else Nx H3)
theorem scG_core (A : Into X) {pins : List (Addr × Obj)} {s : Shared} {σ : L2.St} {H : Hp} {Q : VK} {elt tg iter : Expr} {ifs : List Expr} {scope : Scope} {own : List (PySem.Str × Nat)} {pos pos' : Pos} {wi : TI} {g : TG} {tt : TT} {te : TE} {use : Option (Value → Sem Unit)} {Qf : Value → Shared → Prop}
    (hc : X.calm = true) (hN : X.N.Nodup) (I : Inv X pins σ H s) (hi : PI X tg iter wi) (ok : BlkOk X.N X.env.scope scope own)
    (hg : ∀ (s : Shared) (H : Hp) (C : Addr) (cl : List (PySem.Str × Addr)) (fp : List Addr), PG (X.blk s H scope (compEnvC scope cl C X.env) fp) tg g) (ht : ∀ (s : Shared) (H : Hp) (C : Addr) (cl : List (PySem.Str × Addr)) (fp : List Addr), PTs (X.blk s H scope (compEnvC scope cl C X.env) fp) ifs tt)
    (he : ∀ (s : Shared) (H : Hp) (C : Addr) (cl : List (PySem.Str × Addr)) (fp : List Addr), PE (X.blk s H scope (compEnvC scope cl C X.env) fp) elt te) (hs : ∀ x, foldedSetIterable iter X.env x = pure x)
    (h : tScG A wi g tt te (own.map (·.2)) σ H Q)
    (hRR : ∀ D C s' m H', Inv X pins σ H' s' → Q (.ref D) H' → s'.heap.Ns C m → FpOk X pins H' C → compPost (model X.prog X.w) X.A X.xe use Qf (.ref D) C (.ok .next) s') :
    wpAny (model X.prog X.w) X.A (comprehension (.SetComp elt [⟨tg, iter, ifs, 0⟩] scope pos) scope X.env pos' (newSet (.type "set")) false (eval iter X.env) use) Qf X.xe s := by
  have hfree : ∀ y ∈ scope.names, y.2 = .free → ∃ c, X.env.cells.lookup y.1 = some c := fun y hy e => by
    rcases ok.free y hy e with k | k
    · exact I.ok.has _ (.inl k)
    · exact I.ok.has _ (.inr k)
  refine wpAny_comprehension_free (use := use) rfl hs (closure_ok hfree) ok.kind (fun y hy e => by rw [ok.uniq y hy, e])
    (thn (hi.run pins s σ H _ I h) fun xv s1 hx => thn hx fun itv s2 h2 => ?_)
  obtain ⟨it, fp, tn, J, H2, e, I2, T, st2, f2, q⟩ := h2
  subst e
  refine newSet_ok (newEnv_comp ?_)
  generalize hD : s2.heap.objs.size = D
  have hDn : H2 D = none := I2.hok.fresh (Nat.le_of_eq hD)
  obtain ⟨W, ⟨m0, w0⟩, turn⟩ := q D hDn
  -- the new list
  generalize hs3 : ({ s2 with heap := s2.heap.push { cls := .type "set", dict := none, data := .set #[] 0 (.fresh 0 0 (!X.w.params.followText "set-order")) } } : Shared) = s3
  have I3 : Inv X pins σ (upd H2 D (A.made D)) s3 := by
    rw [← hs3]
    refine I2.laid (t' := s2.toks) (fun b o e => Heap.get?_push_of_some _ e) (Nat.le_of_eq hD) ?_
    rw [← hD]
    exact A.laid _ _
  have h3 : s3.heap = s2.heap.push { cls := .type "set", dict := none, data := .set #[] 0 (.fresh 0 0 (!X.w.params.followText "set-order")) } := by rw [← hs3]
  have sz : ∀ b ∈ fp, b < s2.heap.objs.size := fun b hb => by
    obtain ⟨o, e, _⟩ := T.obj _ _ st2 b hb
    exact Heap.lt_size e
  have f3 : ∀ b ∈ fp, FpOk X pins (upd H2 D (A.made D)) b ∧ b < s3.heap.objs.size := fun b hb => by
    have hlt := sz b hb
    refine ⟨⟨?_, (f2 b hb).2⟩, by rw [h3, Heap.size_push]; exact Nat.lt_succ_of_lt hlt⟩
    rw [upd_ne (by rw [← hD]; exact Nat.ne_of_lt hlt)]
    exact (f2 b hb).1
  have st3 : tn 0 s3.heap := T.keep _ _ _ st2 fun b _ o e => by rw [h3]; exact Heap.get?_push_of_some _ e
  have I4 := block_start I3 ok hN f3
  have pg := hg s3 (upd H2 D (A.made D)) s3.heap.objs.size (cellsFrom (s3.heap.objs.size + 1) scope.names (cloFrom X.env.cells scope.names [])) fp
  have pt := ht s3 (upd H2 D (A.made D)) s3.heap.objs.size (cellsFrom (s3.heap.objs.size + 1) scope.names (cloFrom X.env.cells scope.names [])) fp
  have pe := he s3 (upd H2 D (A.made D)) s3.heap.objs.size (cellsFrom (s3.heap.objs.size + 1) scope.names (cloFrom X.env.cells scope.names [])) fp
  show codeAny _ _ (.compStart (.SetComp elt [⟨tg, iter, ifs, 0⟩] scope pos) 0 (.ref it) (.ref D) (compEnvC scope (cellsFrom (s3.heap.objs.size + 1) scope.names (cloFrom X.env.cells scope.names [])) s3.heap.objs.size X.env)) (compPost (model X.prog X.w) X.A X.xe use Qf (.ref D) s3.heap.objs.size) { s3 with heap := pushCells (s3.heap.push { cls := .type "dict", data := .dict #[] }) scope.names }
  have nfp : ∀ b ∈ fp, (upd H2 D (A.made D)) b = none := fun b hb => (f3 b hb).1.1
  generalize hce : compEnvC scope (cellsFrom (s3.heap.objs.size + 1) scope.names (cloFrom X.env.cells scope.names [])) s3.heap.objs.size X.env = ce at I4 pg pt pe ⊢
  have cL : ce.locals = s3.heap.objs.size := by subst hce; rfl
  generalize hH3 : upd H2 D (A.made D) = H3 at I3 I4 pg pt pe w0 nfp f3
  generalize hs4 : ({ s3 with heap := pushCells (s3.heap.push { cls := .type "dict", data := .dict #[] }) scope.names } : Shared) = s4 at I4 ⊢
  have st4 : tn 0 s4.heap := T.keep _ _ _ st3 fun b _ o e => by rw [← hs4]; exact pushCells_keeps _ _ _ _ (Heap.get?_push_of_some _ e)
  have stat : ∀ {σ' : L2.St} {H' : Hp} {s' : Shared}, Inv (X.blk s3 H3 scope ce fp) [] σ' H' s' → (∀ b ∈ fp, H' b = none) → ∀ b ∈ fp, FpOk (X.blk s3 H3 scope ce fp) [] H' b := fun {σ' H' s'} I' hn b hb =>
    ⟨hn b hb, (I'.ok.exf b hb).1, I'.ok.exfs b hb, .inl hb, fun x c e => (I'.ok.exf b hb).2 x c e, fun p hp => absurd (show p ∈ ([] : List (Addr × Obj)) ++ [] from hp) (by simp)⟩
  have loop : codeAny (model X.prog X.w) X.A (.compLoop (.SetComp elt [⟨tg, iter, ifs, 0⟩] scope pos) 0 (.ref it) (.ref D) ce) (compPost (model X.prog X.w) X.A X.xe use Qf (.ref D) s3.heap.objs.size) s4 := by
    refine compLoopS_any (fun n s' => ∃ i H', Inv (X.blk s3 H3 scope ce fp) [] (wipe σ (own.map (·.2))) H' s' ∧ tn i s'.heap ∧ (∀ b ∈ fp, H' b = none) ∧ W i n H') ?_ m0 ⟨0, H3, I4, st4, nfp, w0⟩
    rintro n s5 ⟨i, H5, I5, st5, n5, w5⟩
    rcases turn i n H5 w5 with ⟨stop, qq⟩ | ⟨go, Nx, hNx, step⟩
    · have td := T.done (X.blk s3 H3 scope ce fp) rfl rfl rfl hc i [] s5 _ H5 (fun _ _ => False) I5 (stat I5 n5) st5 stop
      refine thnF td fun r s6 ⟨hr, I6⟩ => ?_
      subst hr
      -- back in the def's context
      have I7 : Inv X pins σ H5 s6 := I3.call' (ch := fp) I6.os I6.base I6.hok I6.bare fun b hb => ⟨(f3 b hb).1.2.2.2.1, (f3 b hb).1.2.1, (f3 b hb).1.2.2.2.2.1, (f3 b hb).1.2.2.2.2.2⟩
      have nC : H5 s3.heap.objs.size = none := by
        have z : H5 ce.locals = none := I6.free
        rw [cL] at z
        exact z
      obtain ⟨m, hn, _⟩ := I6.loc
      have hn : s6.heap.Ns ce.locals m := hn
      rw [cL] at hn
      exact hRR D s3.heap.objs.size s6 m H5 I7 qq hn (I3.fpOk (Nat.le_refl _) nC)
    · have ti := T.item (X.blk s3 H3 scope ce fp) rfl rfl rfl hc i [] s5 _ H5 (fun _ _ => False) I5 (stat I5 n5) st5 go
      refine thnF ti fun r s6 ⟨u, hr, h6⟩ => ?_
      subst hr
      refine thnF h6 fun _ s7 ⟨x, H7, I7, r7, y7, st7, n7⟩ => ?_
      have I7' := I7.pinned (stat I7 n7) (T.obj _ _ st7)
      refine thnF (pg.run _ s7 _ H7 x u _ I7' r7 (step x H7 y7)) fun _ s8 ⟨σ8, H8, I8, hw8, q8⟩ => ?_
      refine thnF (pt.run _ s8 σ8 H8 _ I8 q8) fun b s9 ⟨H9, I9, q9⟩ => ?_
      -- the turn's end
      have fin : ∀ {s' : Shared} {H' : Hp}, Inv (X.blk s3 H3 scope ce fp) ([] ++ pinsAt fp s7.heap) σ8 H' s' → Nx H' → ∃ m, m < n ∧ ∃ i H', Inv (X.blk s3 H3 scope ce fp) [] (wipe σ (own.map (·.2))) H' s' ∧ tn i s'.heap ∧ (∀ b ∈ fp, H' b = none) ∧ W i m H' := fun {s' H'} I' nx => by
        obtain ⟨m', hm, w'⟩ := hNx H' nx
        have pin' : ∀ b ∈ fp, ∀ o, s7.heap.get? b = some o → s'.heap.get? b = some o ∧ H' b = none := fun b hb o e =>
          let z := I'.pin (b, o) (List.mem_append_right _ (List.mem_append_right _ (mem_pinsAt hb e)))
          ⟨z.1, z.2.1⟩
        have hl : (wipe σ (own.map (·.2))).length = σ8.length := by rw [← hw8, wipe_length]
        refine ⟨m', hm, i + 1, H', (I'.unpinned (pins := [])).weak hl (fun j v e => ?_), T.keep _ _ _ st7 fun b hb o e => (pin' b hb o e).1, fun b hb => ?_, w'⟩
        · rw [← hw8] at e
          exact (wipe_some e).1
        · obtain ⟨o, e, _⟩ := T.obj _ _ st7 b hb
          exact (pin' b hb o e).2
      cases b with
      | false =>
        simp only [Bool.false_eq_true, if_false] at q9 ⊢
        exact fin I9 q9
      | true =>
        simp only [if_true] at q9 ⊢
        refine thnF (pe.run _ s9 σ8 H9 _ I9 q9) fun z s10 ⟨yv, H10, I10, r10, q10⟩ => ?_
        exact wpAny_mono (A.added s3 H3 scope ce fp _ _ _ _ _ _ _ _ I10 r10 q10 _) (fun _ s11 ⟨H11, I11, nx⟩ => fin I11 nx) fun _ _ z => z
  exact codeAny_compStart_set loop (T.self X.A 0 _ _ _ st4 loop)
theorem pe_scG (A : Into X) {elt tg iter : Expr} {ifs : List Expr} {scope : Scope} {own : List (PySem.Str × Nat)} {pos : Pos} {wi : TI} {g : TG} {tt : TT} {te : TE} (hc : X.calm = true) (hN : X.N.Nodup) (hi : PI X tg iter wi) (ok : BlkOk X.N X.env.scope scope own)
    (hg : ∀ (s : Shared) (H : Hp) (C : Addr) (cl : List (PySem.Str × Addr)) (fp : List Addr), PG (X.blk s H scope (compEnvC scope cl C X.env) fp) tg g) (ht : ∀ (s : Shared) (H : Hp) (C : Addr) (cl : List (PySem.Str × Addr)) (fp : List Addr), PTs (X.blk s H scope (compEnvC scope cl C X.env) fp) ifs tt)
    (he : ∀ (s : Shared) (H : Hp) (C : Addr) (cl : List (PySem.Str × Addr)) (fp : List Addr), PE (X.blk s H scope (compEnvC scope cl C X.env) fp) elt te) (hs : ∀ x, foldedSetIterable iter X.env x = pure x := by intro _; rfl) :
    PE X (.SetComp elt [⟨tg, iter, ifs, 0⟩] scope pos) (tScG A wi g tt te (own.map (·.2))) := by
  refine ⟨fun pins s σ H Q I h => ?_⟩
  rw [eval_SetComp]
  refine scG_core A hc hN I hi ok hg ht he hs h fun D C s' m H' I' q hn f => ⟨m, hn, fun h'' sb => ?_⟩
  obtain ⟨f0, f1, f2, f3, f4, f5⟩ := f
  exact ⟨.ref D, H', I'.turned (t' := s'.toks) (fun b o hb e => (sb.2 b hb).trans e) f0 f1 f3 f4 f5, rfl, q⟩
/-- sets of whole numbers -/
@[reducible] def intoI (X : Cx) : Into X where
  made := fun D => SetO X.w D (fun _ => false) 0
  put := fun D y H N => ∃ (c : Int) (S : Int → Bool) (n : Nat), y = .int c ∧ H D = some (SetO X.w D S n) ∧ n + 1 < scanBound ∧ N (upd H D (SetO X.w D (fun j => S j || decide (j = c)) (if S c = true then n else n + 1)))
  laid := fun h H => setO_new ((setR_new_at (ns := []) (Heap.get?_push_size _ rfl)).congr fun _ => rfl)
  added := by
    intro s0 H0 sc ce fp pins σ H s D y v N I r ⟨c, S, n, ey, hD, room, nx⟩ E
    subst ey
    obtain ⟨t, rfl⟩ := r
    have R : SetR X.w s.heap D S n := setO_get (X := X.blk s0 H0 sc ce fp) I hD
    refine setR_add R room fun h' sb new => ?_
    obtain ⟨o, _, _, _, ho, _⟩ := id new
    exact ⟨_, I.write (e := D) (t' := s.toks + 1) (by rw [hD]; trivial) (.inl rfl) (fun b u hb hu => (sb.2 b hb).trans hu) ⟨o, ho⟩ (setO_new new), nx⟩
/-- over a list that the block leaves as it is -/
theorem scG_list (A : Into X) {K : PySem.W.Frag} {a : Addr} {xs : List V} {g : TG} {tt : TT} {te : TE} {vs : List Nat} {σ : L2.St} {H1 : Hp} {D : Addr} {Qd : Hp → Prop} (Pv : Nat → Hp → Prop) (start : Pv 0 (upd H1 D (A.made D))) (stays : ∀ i G, Pv i G → SqL K G a xs)
    (step : ∀ i x G, xs[i]? = some x → Pv i G → g x (wipe σ vs) G fun σ2 H2 => wipe σ2 vs = wipe σ vs ∧ tt σ2 H2 fun b H3 => if b = true then te σ2 H3 fun y H4 => A.put D y H4 (Pv (i + 1)) else Pv (i + 1) H3) (fin : ∀ G, Pv xs.length G → Qd G) :
    ∃ W : Nat → Nat → Hp → Prop, (∃ m, W 0 m (upd H1 D (A.made D))) ∧ ∀ i m G, W i m G →
      ((Itl K a).stop i G ∧ Qd G) ∨ ((Itl K a).go i G ∧ ∃ Nx : Hp → Prop, (∀ G', Nx G' → ∃ m', m' < m ∧ W (i + 1) m' G') ∧ ∀ x G', (Itl K a).yld i G x G' → g x (wipe σ vs) G' fun σ2 H2 => wipe σ2 vs = wipe σ vs ∧ tt σ2 H2 fun b H3 =>
        if b = true then te σ2 H3 fun y H4 => A.put D y H4 Nx else Nx H3) := by
  refine ⟨fun i m G => m + i = xs.length ∧ Pv i G, ⟨xs.length, rfl, start⟩, ?_⟩
  rintro i m G ⟨e, p⟩
  have sq := stays i G p
  rcases Nat.lt_or_ge i xs.length with lt | ge
  · refine .inr ⟨⟨xs, xs[i], sq, List.getElem?_eq_getElem lt⟩, Pv (i + 1), fun G' p' => ⟨m - 1, by omega, by omega, p'⟩, fun x G' told => ?_⟩
    obtain ⟨rfl, y⟩ := told
    exact step i x G' (y xs sq) p
  · have e' : i = xs.length := by omega
    subst e'
    exact .inl ⟨⟨xs, sq, Nat.le_refl _⟩, fin G p⟩
end
/-! ### set(xs) of a list of ints, with its order; sorted of it: sorted_set of the library -/
abbrev bareS (w : World) : Obj := { cls := .type "set", dict := none, data := .set #[] 0 (.fresh 0 0 (!w.params.followText "set-order")) }
section
variable {P : Program} {w : World} {A : Around} {E : Value → Shared → Prop} {s : Shared}
set_option maxRecDepth 100000 in
set_option maxHeartbeats 3200000 in
theorem set_of_ints {l : Addr} {items : Array Value} (ns : List Int) {Q : Value → Shared → Prop} (calm : A.handled = none) (il : s.heap.IsList l items) (are : IntsAre items.toList ns) (few : ns.length + 1 < scanBound)
    (h : ∀ (h' : Heap) (tk c : Nat), SetR w h' s.heap.objs.size (fun j => decide (j ∈ ns)) c → c ≤ ns.length → (∀ b o, s.heap.get? b = some o → h'.get? b = some o) → Q (.ref s.heap.objs.size) { s with heap := h', toks := tk }) :
    wpAny (model P w) A (call (.type "set") [.ref l]) Q E s := by
  have sz : items.size = ns.length := by
    rw [← IntsAre.length are, Array.length_toList]
  obtain ⟨c, tl, mro⟩ := F.called_set.mro
  have m1 := F.called_set.made
  have m2 := F.called_set.sub
  refine wpAny_call (codeAny_of_tree ?_)
  show wpAny _ _ (callAny (.type "set") _) _ _ _
  refine wpAny_pure ⟨Code.quiet_builtin _ (by decide +kernel), codeAny_builtin F.entry_type_call ?_⟩
  rw [Around.under_plain (weight_type_call_type "set" [.ref l] []) rfl]
  have m3 := F.called_set.notType
  have m4 := F.called_set.canCreate
  have m5 := F.typeCall_set_1 (.ref l)
  repeat any_goals first | assumption | wp_step
  refine codeAny_mono (code_set_led1 (.ref l) (E := E) (Q₁ := fun obj s1 => obj = .ref s.heap.objs.size ∧ s1 = { s with heap := s.heap.push (bareS w) }) ⟨rfl, rfl⟩) fun r s1 told => ?_
  match r, told with
  | .error e, told => exact told
  | .ok .next, told => exact told.elim
  | .ok .brk, told => exact told.elim
  | .ok .cont, told => exact told.elim
  | .ok (.ret obj), told =>
    obtain ⟨rfl, rfl⟩ := told
    have at1 : (s.heap.push (bareS w)).get? s.heap.objs.size = some (bareS w) := Heap.get?_push_size _ rfl
    have ty1 : Shared.TypeIs { s with heap := s.heap.push (bareS w) } (.ref s.heap.objs.size) "set" := ⟨_, at1, rfl⟩
    have i1 := F.called_set.init.lookup
    have i2 := F.called_set.init.bind (.ref s.heap.objs.size)
    repeat any_goals first | assumption | wp_step
    refine codeAny_mono (codeAny_call_builtin (R := wants (fun r s2 => r = .none ∧ ∃ h' tk c, s2 = { s with heap := h', toks := tk } ∧ SetR w h' s.heap.objs.size (fun j => decide (j ∈ ns)) c ∧ c ≤ ns.length ∧
      (∀ b o, s.heap.get? b = some o → h'.get? b = some o)) E) F.called_set.init.plain F.entry_set_init (check_set_init_1 ty1 ?_)) fun r2 s2 told2 => ?_
    · obtain ⟨⟨k1, k2, k3, k4⟩, ol, oc, nl, od⟩ := il
      simp only at oc od
      subst oc
      subst od
      have ol' : (s.heap.push (bareS w)).get? l = some { cls := .type "list", dict := k2, data := .seq items nl, slots := k4 } := Heap.get?_push_of_some _ ol
      have b1 := F.sub_list_set
      have b2 := F.sub_list_frozenset
      have b3 : (Value.type "list" == Value.type "dict") = false := by decide
      have il1 : (s.heap.push (bareS w)).IsList l items := ⟨_, ol', rfl, nl, rfl⟩
      unfold Builtin.«set.__init__» noKeywords Builtin.Frozenset.updateFrom
      generalize gen : pyIter = walker
      wp_walk
      subst gen
      refine wpAny_pyIter_list il1 (wpAny_bind (wpAny_runValue ?_))
      have ll : l < s.heap.objs.size := Heap.lt_size ol
      have z1 : (s.heap.push (bareS w)).objs.size = s.heap.objs.size + 1 := Heap.size_push ..
      have d1 : l ≠ (s.heap.push (bareS w)).objs.size := by rw [z1]; exact Nat.ne_of_lt (Nat.lt_succ_of_lt ll)
      have d2 : s.heap.objs.size ∉ [(s.heap.push (bareS w)).objs.size, l] := by
        simp only [List.mem_cons, List.not_mem_nil, or_false, not_or]
        rw [z1]
        exact ⟨Nat.ne_of_lt (Nat.lt_succ_self _), Nat.ne_of_gt ll⟩
      have vals : ∀ (i : Nat) (v : Value), items[i]? = some v → ∃ k t, ns[i]? = some k ∧ v = .int k t := fun i v hv => by
        have li : i < ns.length := by
          rw [← sz]
          exact (Array.getElem?_eq_some_iff.mp hv).1
        obtain ⟨t, e⟩ := PyProof.Rows.IntsAre.int_at are i v (by rw [Array.getElem?_toList]; exact hv)
        refine ⟨ns[i], t, List.getElem?_eq_getElem li, ?_⟩
        rw [e, List.getD_eq_getElem?_getD, List.getElem?_eq_getElem li]
        rfl
      refine set_update_ints ((Walks.list (by simp [calm]) _ l d1 items).toS) s.heap.objs.size d2 ns sz few vals (items.size - 0) 0 _ (by omega) (Nat.zero_le _)
        ⟨⟨_, Heap.get?_push_size _ rfl, rfl, rfl⟩, (il1.push _)⟩ ⟨0, Nat.le_refl 0, setR_new_at (Heap.get?_push_of_some _ at1)⟩ fun s' c' moved le new => ?_
      obtain ⟨h', g', d', tk', o'⟩ := s'
      have y1 : g' = s.gens := moved.gens
      have y2 : d' = s.drawn := moved.drawn
      have y3 : o' = s.os := moved.os
      subst y1 y2 y3
      show wpAny _ _ _ _ _ _
      refine wpAny_pure ?_
      show wpAny _ _ (ret Value.none) _ _ _
      rw [sz] at le
      refine wpAny_pure ⟨rfl, h', tk', c', rfl, new, le, fun b o e => moved.heap b o ?_ (Heap.get?_push_of_some _ (Heap.get?_push_of_some _ e))⟩
      have lb := Heap.lt_size e
      simp only [List.mem_cons, List.not_mem_nil, or_false, not_or]
      rw [z1]
      exact ⟨Nat.ne_of_lt lb, Nat.ne_of_lt (Nat.lt_succ_of_lt lb)⟩
    · match r2, told2 with
      | .error e, told2 => exact told2
      | .ok .next, told2 => exact told2.elim
      | .ok .brk, told2 => exact told2.elim
      | .ok .cont, told2 => exact told2.elim
      | .ok (.ret r), told2 =>
        obtain ⟨rfl, h', tk, c, rfl, new, le, old⟩ := told2
        repeat any_goals first | assumption | wp_step
        exact h _ _ _ new le old
end
section
variable {X : Cx}
def rSetOfJ (K : PySem.W.Frag) (w : World) : List V → Hp → VK → Prop := fun xs H Q => ∃ (l : Addr) (ns : List Int), xs = [V.ref l] ∧ SqL K H l (ns.map V.int) ∧ ns.length < 4000 ∧ ∀ a c, H a = none → Q (.ref a) (upd H a (SetO w a (fun j => decide (j ∈ ns)) c))
theorem cr_setOfJ (calm : X.calm = true) : CallR X (.type "set") (rSetOfJ X.K X.w) := by
  rintro pins s σ H xs us Q I r ⟨l, ns, rfl, hl, few, q⟩
  rw [Vals.ref1 r]
  obtain ⟨its, rv, pl, _⟩ := I.list hl
  refine set_of_ints (P := X.prog) (w := X.w) ns (I.ok.hd calm) pl.isList (by simpa using rv.ints) (by unfold scanBound; omega) fun h' tk c new le old => ?_
  exact ⟨.ref s.heap.objs.size, upd H s.heap.objs.size (SetO X.w s.heap.objs.size (fun j => decide (j ∈ ns)) c), I.laid (t' := tk) old (Nat.le_refl _) (setO_new new), rfl, q _ c (I.hok.fresh (Nat.le_refl _))⟩
end
end G0
namespace G0
open PySem PySem.Spec PyProof.Rows L2
/-! ### data -/
mutual
def noL : PyData → Bool
  | .none | .bool _ | .int _ | .str _ => true
  | .list _ | .dict _ => false
  | .tuple xs => noLs xs
def noLs : List PyData → Bool
  | [] => true
  | x :: xs => noL x && noLs xs
end
section
variable {K : PySem.W.Frag} {H H' : Hp} {p : Addr}
theorem sqt_chg (hp : ∃ xs, H p = some (.lst xs)) (c : Chg p H H') {a : Addr} {xs : List V} (h : SqT K H a xs) : SqT K H' a xs := by
  obtain ⟨ys, hp⟩ := hp
  rcases h with (h | ⟨o, h⟩) | h
  · exact .inl (.inl (c _ _ (ne_of h hp (by intro z; cases z)) h))
  · exact .inl (.inr ⟨o, c _ _ (ne_of h hp (by intro z; cases z)) h⟩)
  · exact .inr h
theorem sqt_same (c : Same H H') {a : Addr} {xs : List V} (h : SqT K H a xs) : SqT K H' a xs := by
  rcases h with (h | ⟨o, h⟩) | h
  · exact .inl (.inl (c _ _ h))
  · exact .inl (.inr ⟨o, c _ _ h⟩)
  · exact .inr h
mutual
theorem dp_chg (hp : ∃ xs, H p = some (.lst xs)) (c : Chg p H H') : ∀ (d : PyData) (v : V), noL d = true → Dp K H v d → Dp K H' v d
  | .none, _, _, h => by cases h; exact .non
  | .bool _, _, _, h => by cases h; exact .bl _
  | .int _, _, _, h => by cases h; exact .int _
  | .str _, _, _, h => by cases h; exact .str _
  | .list _, _, n, _ => by simp [noL] at n
  | .dict _, _, n, _ => by simp [noL] at n
  | .tuple ds, _, n, h => by
    cases h with
    | tup hs ha => exact .tup (sqt_chg hp c hs) (dps_chg hp c ds _ (by simpa [noL] using n) ha)
theorem dps_chg (hp : ∃ xs, H p = some (.lst xs)) (c : Chg p H H') : ∀ (ds : List PyData) (vs : List V), noLs ds = true → DpAll K H vs ds → DpAll K H' vs ds
  | [], _, _, h => by cases h; exact .nil
  | d :: ds, _, n, h => by
    simp only [noLs, Bool.and_eq_true] at n
    cases h with
    | cons h1 h2 => exact .cons (dp_chg hp c d _ n.1 h1) (dps_chg hp c ds _ n.2 h2)
end
mutual
theorem dp_same (c : Same H H') : ∀ (d : PyData) (v : V), Dp K H v d → Dp K H' v d
  | .none, _, h => by cases h; exact .non
  | .bool _, _, h => by cases h; exact .bl _
  | .int _, _, h => by cases h; exact .int _
  | .str _, _, h => by cases h; exact .str _
  | .list ds, _, h => by
    cases h with
    | lst hs ha => exact .lst (c.seq hs) (dps_same c ds _ ha)
  | .dict _, _, h => by cases h
  | .tuple ds, _, h => by
    cases h with
    | tup hs ha => exact .tup (sqt_same c hs) (dps_same c ds _ ha)
theorem dps_same (c : Same H H') : ∀ (ds : List PyData) (vs : List V), DpAll K H vs ds → DpAll K H' vs ds
  | [], _, h => by cases h; exact .nil
  | d :: ds, _, h => by
    cases h with
    | cons h1 h2 => exact .cons (dp_same c d _ h1) (dps_same c ds _ h2)
end
theorem dps_app {vs ws : List V} {ds es : List PyData} : DpAll K H vs ds → DpAll K H ws es → DpAll K H (vs ++ ws) (ds ++ es) := by
  intro h g
  match vs, ds, h with
  | [], [], _ => exact g
  | _ :: _, _ :: _, .cons h1 h2 => exact .cons h1 (dps_app h2 g)
theorem dps_len {vs : List V} {ds : List PyData} : DpAll K H vs ds → vs.length = ds.length := by
  intro h
  match vs, ds, h with
  | [], [], _ => rfl
  | _ :: _, _ :: _, .cons _ h2 => exact congrArg (· + 1) (dps_len h2)
end
theorem noLs_of : ∀ {ds : List PyData}, (∀ d ∈ ds, noL d = true) → noLs ds = true
  | [], _ => rfl
  | d :: ds, h => by
    simp only [noLs, Bool.and_eq_true]
    exact ⟨h d (List.mem_cons_self ..), noLs_of fun x hx => h x (List.mem_cons_of_mem _ hx)⟩
/-! ### things and letters -/
inductive Thing : Nat → PyData → Prop
  | num {n : Nat} {i : Int} : 0 ≤ i → i < 10 ^ 60 → Thing n (.int i)
  | tup {n : Nat} {ds : List PyData} : ds.length ≤ 2 → (∀ d ∈ ds, Thing n d) → Thing (n + 1) (.tuple ds)
theorem Thing.noL {n : Nat} {d : PyData} (h : Thing n d) : noL d = true := by
  induction h with
  | num _ _ => rfl
  | tup _ _ ih =>
    simp only [G0.noL]
    exact noLs_of ih
theorem Thing.mono {n m : Nat} {d : PyData} (h : Thing n d) (le : n ≤ m) : Thing m d := by
  induction h generalizing m with
  | num a b => exact .num a b
  | tup l _ ih =>
    cases m with
    | zero => omega
    | succ m => exact .tup l fun d hd => ih d hd (by omega)
def WordOk (z : Str) : Prop := 1 ≤ z.length ∧ z.length ≤ 8 ∧ (∀ c ∈ z.cps.toList, 97 ≤ c ∧ c ≤ 122) ∧ z ≠ "gone"
def LetterD (d : PyData) : Prop := ∃ (z : Str) (ds : List PyData), d = .tuple (.str z :: ds) ∧ WordOk z ∧ ds.length ≤ 5 ∧ ∀ x ∈ ds, Thing 3 x
theorem LetterD.noL {d : PyData} (h : LetterD d) : noL d = true := by
  obtain ⟨z, ds, rfl, _, _, hd⟩ := h
  simp only [G0.noL, noLs, Bool.true_and]
  exact noLs_of fun x hx => (hd x hx).noL
theorem Chg.mut {p D : Addr} {H0 H1 : Hp} {o : HO} (a : Chg p H0 H1) (n : H0 D = none) : Chg p H0 (upd H1 D o) := fun b u m e => by
  rw [upd_ne (ne_of_none e n)]; exact a b u m e
theorem PotAt.ne {n : Nat} {H H' : Hp} {p D : Addr} {o : HO} (h : PotAt n H p) (d : p ≠ D) (e : H' = upd H D o) : PotAt n H' p := by
  obtain ⟨xs, q, r⟩ := h
  exact ⟨xs, by rw [e, upd_ne d]; exact q, r⟩
theorem PotAt.new {n : Nat} {H : Hp} {p D : Addr} {o : HO} (h : PotAt n H p) (d : H D = none) : PotAt n (upd H D o) p := h.keep (same_upd d)
theorem PotAt.neD {n : Nat} {H : Hp} {p D : Addr} (h : PotAt n H p) (d : H D = none) : p ≠ D := by
  obtain ⟨xs, q, r⟩ := h
  exact ne_of_none q d
theorem PotAt.lst {n : Nat} {H : Hp} {p : Addr} (h : PotAt n H p) : ∃ xs, H p = some (.lst xs) := by
  obtain ⟨xs, q, r⟩ := h
  exact ⟨xs, q⟩
theorem PotAt.neT {n : Nat} {H : Hp} {p t : Addr} {xs : List V} (h : PotAt n H p) (d : H t = some (.tup xs)) : t ≠ p := by
  obtain ⟨ys, q, r⟩ := h
  exact ne_of d q (by intro z; cases z)
theorem Cal.imp {P : Program} {w : World} {K : PySem.W.Frag} {mg : Str → Option Value} {base : Heap} {x : Str} {k : Nat} {ps : List Str} {sp sp' : Sp}
    (C : Cal P w K mg base x k ps sp) (h : ∀ vs H Q E, sp' vs H Q E → sp vs H Q E) : Cal P w K mg base x k ps sp' := by
  obtain ⟨f, fd, F, r⟩ := C
  exact ⟨f, fd, ⟨fun a b c d q => F.len _ _ _ _ (h _ _ _ _ q), fun A o s H args us vs Q E hr he hb hv hs => F.run A o s H args us vs Q E hr he hb hv (h _ _ _ _ hs)⟩, r⟩
theorem cal_no {P : Program} {w : World} {K : PySem.W.Frag} {mg : Str → Option Value} {base : Heap} {x : Str} {st : Stmt} {ps : List Str} (F : Fn K mg x st)
    (bd : ∀ (kV doc pm : Value) (an : Option Addr) (cdv ct : Value) (us : List Value), us.length = ps.length →
      bindArgs (PySem.W.fnOf x x (defArgs st) (defBody st) (defScope st) .none kV doc pm an cdv ct) ⟨us, []⟩ = pure (ps.zip us)) :
    Cal P w K mg base x 0 ps (fun _ _ _ _ => False) := by
  obtain ⟨f, fd, F, m⟩ := F
  obtain ⟨oc, od, kV, doc, pm, an, cdv, ct, osl, e, lk, c⟩ := id F.ex
  exact ⟨f, fd, ⟨fun _ _ _ _ h => h.elim, fun _ _ _ _ _ _ _ _ _ _ _ _ _ h => h.elim⟩, F.binds bd, m, F.kp, oc, od, osl, lk⟩
/-! ### texts of small letters -/
theorem az : ∀ j : Fin 26, (("abcdefghijklmnopqrstuvwxyz" : Str).cps.toList)[j.val]? = some (97 + j.val) := by decide +kernel
theorem az_at {d : Int} (h0 : 0 ≤ d) (h1 : d < 26) : atI ("abcdefghijklmnopqrstuvwxyz" : Str).cps.toList d = some (97 + d.toNat) := by
  have e : d = ((d.toNat : Nat) : Int) := by omega
  have q := az ⟨d.toNat, by omega⟩
  rw [e]
  exact atI_nat q
def sg (c : Nat) : Str := ⟨#[c]⟩
open TL in
theorem joinL_sg : ∀ cs : List Nat, joinL [] (cs.map fun c => [c]) = cs
  | [] => rfl
  | [c] => rfl
  | c :: d :: r => by
    show [c] ++ ([] ++ joinL [] ((d :: r).map fun c => [c])) = c :: d :: r
    rw [joinL_sg (d :: r)]
    rfl
open TL in
theorem tl_of (z : Str) : tl z = z.cps.toList := rfl
open TL in
theorem join_sg (cs : List Nat) : (Txt.join "" (cs.map sg)).cps.toList = cs := by
  rw [join_eq, ← tl_of, tl_join]
  have e : (cs.map sg).map tl = cs.map fun c => [c] := by rw [List.map_map]; rfl
  rw [e]
  exact joinL_sg cs
open TL in
theorem join_sg_len (cs : List Nat) : (Txt.join "" (cs.map sg)).length = cs.length := by
  have e := congrArg List.length (join_sg cs)
  rw [← e]
  show _ = (Txt.join "" (cs.map sg)).cps.toList.length
  simp [Str.length]
theorem sum_sg : ∀ cs : List Nat, ((cs.map sg).map (·.length)).sum = cs.length
  | [] => rfl
  | c :: r => by
    show 1 + ((r.map sg).map (·.length)).sum = r.length + 1
    rw [sum_sg r]; omega

end G0
namespace G0
open PySem PySem.Spec PyProof.Rows L2
theorem iteF' {c : Bool} {A B : Prop} (e : c = false) (h : B) : if c = true then A else B := by rw [e]; exact iteF h
theorem iteT' {c : Bool} {A B : Prop} (e : c = true) (h : A) : if c = true then A else B := by rw [e]; exact iteT h
/-! ### several lists may change -/
def ChgS (S : List Addr) (H H' : Hp) : Prop := ∀ b o, b ∉ S → H b = some o → H' b = some o
section
variable {S : List Addr} {p q : Addr} {H H' H0 H1 H2 : Hp} {o : HO}
theorem ChgS.refl : ChgS S H H := fun _ _ _ e => e
theorem ChgS.trans (a : ChgS S H H1) (b : ChgS S H1 H2) : ChgS S H H2 := fun c o n e => b c o n (a c o n e)
theorem Chg.s (h : Chg p H H') (m : p ∈ S) : ChgS S H H' := fun b o n e => h b o (fun z => n (z ▸ m)) e
theorem Same.s (h : Same H H') : ChgS S H H' := fun b o _ e => h b o e
theorem ChgS.mono {T : List Addr} (h : ChgS S H H') (m : ∀ b ∈ S, b ∈ T) : ChgS T H H' := fun b o n e => h b o (fun z => n (m b z)) e
theorem ChgS.new (a : ChgS S H H1) (n : H1 q = none) : ChgS S H (upd H1 q o) := fun b u m e => by
  rw [upd_ne (ne_of_none (a b u m e) n)]; exact a b u m e
theorem ChgS.mut (a : ChgS S H H1) (n : H q = none) : ChgS S H (upd H1 q o) := fun b u m e => by
  rw [upd_ne (ne_of_none e n)]; exact a b u m e
theorem ChgS.put (a : ChgS S H H1) (m : q ∈ S) : ChgS S H (upd H1 q o) := fun b u n e => by
  have nb : b ≠ q := fun z => n (by rw [z]; exact m)
  rw [upd_ne nb]; exact a b u n e
/-- what is new behind was new ahead -/
theorem ChgS.back (a : ChgS S H H1) (n : H1 q = none) (m : q ∉ S) : H q = none := by
  cases e : H q with
  | none => rfl
  | some u => rw [a q u m e] at n; cases n
theorem Chg.back (a : Chg p H H1) (n : H1 q = none) (m : q ≠ p) : H q = none := by
  cases e : H q with
  | none => rfl
  | some u => rw [a q u m e] at n; cases n
theorem PotAt.keepS {n : Nat} (h : PotAt n H p) (s : ChgS S H H') (m : p ∉ S) : PotAt n H' p := by
  obtain ⟨xs, e, h⟩ := h
  exact ⟨xs, s _ _ m e, h⟩
end
/-! ### lists of ints -/
section
variable {K : PySem.W.Frag} {H : Hp}
theorem dps_ints : ∀ ns : List Int, DpAll K H (ns.map V.int) (ns.map PyData.int)
  | [] => .nil
  | n :: r => .cons (.int n) (dps_ints r)
theorem dp_ints {a : Addr} {ns : List Int} (h : H a = some (.lst (ns.map V.int))) : Dp K H (.ref a) (.list (ns.map PyData.int)) := .lst (SqL.of h) (dps_ints ns)
theorem lay_ints : ∀ ns : List Int, PyData.canLayAll0 (ns.map PyData.int) = true
  | [] => by simp [PyData.canLayAll0]
  | n :: r => by simp [PyData.canLayAll0, PyData.canLay0, lay_ints r]
theorem deep_ints : ∀ ns : List Int, PyData.depthAll (ns.map PyData.int) = 0
  | [] => by simp [PyData.depthAll]
  | n :: r => by simp [PyData.depthAll, PyData.depth, deep_ints r]
theorem shaped_ints (ns : List Int) : SeqAt.shaped (.list (ns.map PyData.int)) = true := by
  show ((PyData.list (ns.map PyData.int)).canLay0 && decide ((PyData.list (ns.map PyData.int)).depth ≤ 64)) = true
  simp [PyData.canLay0, PyData.depth, lay_ints, deep_ints]
theorem flat_ints : ∀ ns : List Int, (ns.map V.int).all flatV = true
  | [] => rfl
  | n :: r => by simp [flatV, flat_ints r]
theorem inV_ints (v : Int) : ∀ ns : List Int, inV (.int v) (ns.map V.int) = decide (v ∈ ns)
  | [] => by simp [inV]
  | n :: r => by
    have ih := inV_ints v r
    unfold inV at ih ⊢
    rw [List.map_cons, List.any_cons, ih]
    show ((n == v) || decide (v ∈ r)) = decide (v ∈ n :: r)
    by_cases e : n = v
    · subst e; simp
    · have e' : ¬ v = n := fun z => e z.symm
      simp [e, e']
theorem at_ints {ns : List Int} {d : Int} (h0 : 0 ≤ d) (h1 : d < ns.length) : ∃ v, v ∈ ns ∧ atI (ns.map V.int) d = some (.int v) := by
  have hk : d.toNat < ns.length := by omega
  have ek : d = ((d.toNat : Nat) : Int) := by omega
  refine ⟨ns[d.toNat], List.getElem_mem hk, ?_⟩
  have q : atI (ns.map V.int) ((d.toNat : Nat) : Int) = some (.int ns[d.toNat]) := atI_nat (by rw [List.getElem?_map, List.getElem?_eq_getElem hk] <;> rfl)
  rw [← ek] at q
  exact q
end
/-! ### how long a repr is -/
mutual
def cost : PyData → Nat
  | .none => 4
  | .bool _ => 5
  | .int _ => 1921
  | .str x => 10 * x.length + 2
  | .list xs => 2 + costs xs
  | .tuple xs => 4 + costs xs
  | .dict _ => 0
def costs : List PyData → Nat
  | [] => 0
  | x :: xs => cost x + 2 + costs xs
end
theorem from_le : ∀ (ts : List Str) (k : Nat) (acc : Str), (textFrom k acc ts).length ≤ acc.length + (ts.map fun t => t.length + 2).sum
  | [], k, acc => by show acc.length ≤ _; simp
  | t :: r, k, acc => by
    have ih := from_le r (k + 1) (acc ++ (if k > 0 then ", " else "" : String) ++ t)
    show (textFrom (k + 1) _ r).length ≤ _
    rw [List.map_cons, List.sum_cons]
    rw [Str.length_append, Str.length_append] at ih
    have sep : (Str.ofString (if k > 0 then ", " else "")).length ≤ 2 := by split <;> decide
    omega
theorem join_le : ∀ ts : List Str, (Str.join ", " ts).length ≤ (ts.map fun t => t.length + 2).sum
  | [] => by decide
  | [x] => by show x.length ≤ _; simp
  | x :: y :: r => by
    have ih := join_le (y :: r)
    show (x ++ (", " : Str) ++ Str.join ", " (y :: r)).length ≤ _
    rw [Str.length_append, Str.length_append, List.map_cons, List.sum_cons]
    have : (", " : Str).length = 2 := by decide
    omega
theorem small_cps {x : Str} (h : PyData.strOk x = true) : ∀ c ∈ x.cps.toList, c < 16 ^ 8 := fun c hc => by
  unfold PyData.strOk at h
  rw [Array.all_eq_true_iff_forall_mem] at h
  have := of_decide_eq_true (h c (Array.mem_toList_iff.mp hc))
  omega
mutual
theorem shown_le : ∀ d : PyData, d.showable = true → d.canLay0 = true → d.shown.length ≤ cost d
  | .none, _, _ => by show (("None" : Str)).length ≤ 4; decide
  | .bool b, _, _ => by cases b <;> (simp only [PyData.shown, cost]; decide)
  | .int i, h, _ => by
    simp only [PyData.shown, cost]
    exact int_text_len_1921 (by simpa [PyData.showable] using h)
  | .str x, _, h => by
    simp only [PyData.shown, cost]
    exact StrLaws.reprText_len x (small_cps (by simpa [PyData.canLay0] using h))
  | .list xs, h, l => by
    have ih := shown_les xs (by simpa [PyData.showable] using h) (by simpa [PyData.canLay0] using l)
    simp only [PyData.shown, cost]
    show (textFrom 0 "[" (PyData.shownAll xs) ++ ("]" : Str)).length ≤ _
    have := from_le (PyData.shownAll xs) 0 "["
    have a : ("[" : Str).length = 1 := by decide
    have b : ("]" : Str).length = 1 := by decide
    rw [Str.length_append]
    omega
  | .tuple xs, h, l => by
    have ih := shown_les xs (by simpa [PyData.showable] using h) (by simpa [PyData.canLay0] using l)
    simp only [PyData.shown, cost]
    show (("(" : Str) ++ Str.join ", " (PyData.shownAll xs) ++ (Str.ofString (if (PyData.shownAll xs).length == 1 then ",)" else ")"))).length ≤ _
    have := join_le (PyData.shownAll xs)
    have a : ("(" : Str).length = 1 := by decide
    have b : (Str.ofString (if (PyData.shownAll xs).length == 1 then ",)" else ")")).length ≤ 2 := by split <;> decide
    rw [Str.length_append, Str.length_append]
    omega
  | .dict _, _, h => by simp [PyData.canLay0] at h
theorem shown_les : ∀ ds : List PyData, PyData.showableAll ds = true → PyData.canLayAll0 ds = true → ((PyData.shownAll ds).map fun t => t.length + 2).sum ≤ costs ds
  | [], _, _ => Nat.le_refl _
  | d :: ds, h, l => by
    simp only [PyData.showableAll, Bool.and_eq_true] at h
    simp only [PyData.canLayAll0, Bool.and_eq_true] at l
    have h1 := shown_le d h.1 l.1
    have h2 := shown_les ds h.2 l.2
    simp only [PyData.shownAll, costs, List.map_cons, List.sum_cons]
    omega
end

end G0
namespace G0
open PySem PySem.Spec PyProof.Rows L2
def top (i : Nat) : Stmt := PySem.Challenge.pw_soleseat_k63_votes_in_hand.main.body.getD i (.Pass ⟨0, 0, 0, 0⟩)
abbrev s_wall : Stmt := top 0
abbrev s_Seat__init : Stmt := inClass (top 4) 0
abbrev s_Seat_ask : Stmt := inClass (top 4) 1
abbrev s_Seat_leave : Stmt := inClass (top 4) 2
abbrev s_Seat_hear : Stmt := inClass (top 4) 3
abbrev s_Seat_gone : Stmt := inClass (top 4) 4
abbrev s_Desk__init : Stmt := inClass (top 6) 0
abbrev s_Desk_take_ask : Stmt := inClass (top 6) 1
abbrev s_Desk_take_given : Stmt := inClass (top 6) 2
abbrev s_Desk_take_done : Stmt := inClass (top 6) 3
abbrev s_Desk_take_gone : Stmt := inClass (top 6) 4
abbrev s_Desk__len : Stmt := inClass (top 6) 5
abbrev s_Desk_free : Stmt := inClass (top 6) 6
abbrev s_Desk_give_the_free_vote : Stmt := inClass (top 6) 7
abbrev s_Barred__init : Stmt := inClass (top 8) 0
abbrev s_Voter__init : Stmt := inClass (top 10) 0
abbrev s_Voter_ask : Stmt := inClass (top 10) 1
abbrev s_Voter_leave : Stmt := inClass (top 10) 2
abbrev s_Voter_hear : Stmt := inClass (top 10) 3
abbrev s_Voter_gone : Stmt := inClass (top 10) 4
abbrev s_Voter_free_set : Stmt := inClass (top 10) 5
abbrev s_Voter_hear_vote : Stmt := inClass (top 10) 6
abbrev s_Voter_hear_back : Stmt := inClass (top 10) 7
abbrev s_Voter_turn : Stmt := inClass (top 10) 8
abbrev s_Voter_want : Stmt := inClass (top 10) 9
abbrev s_Voter_done : Stmt := inClass (top 10) 10
abbrev s_Voter_be_out : Stmt := inClass (top 10) 11
abbrev s_Voter_from_desk : Stmt := inClass (top 10) 12
abbrev s_Voter_desk_letter : Stmt := inClass (top 10) 13
abbrev s_law_draws : Stmt := top 12
abbrev s_law_same : Stmt := top 13
abbrev s_law_cell_at : Stmt := top 14
abbrev s_law_sets : Stmt := top 15
abbrev s_law_refused : Stmt := top 16
abbrev s_law_looks : Stmt := top 17
abbrev s_law_made : Stmt := top 18
abbrev s_law_asks : Stmt := top 19
abbrev s_law_leaves : Stmt := top 20
abbrev s_law_votes : Stmt := top 21
abbrev s_law_asked_back : Stmt := top 22
abbrev s_law_deed : Stmt := top 23
abbrev s_law_cells : Stmt := top 24
abbrev s_law : Stmt := top 25
section
structure BlD (mg : Str → Option Value) : Prop where
  len : mg "len" = none
  range : mg "range" = none
  tuple : mg "tuple" = none
  list : mg "list" = none
  isinstance : mg "isinstance" = none
  bool : mg "bool" = none
  sorted : mg "sorted" = none
  sum : mg "sum" = none
  int : mg "int" = none
  min : mg "min" = none
variable {P : Program} {w : World} {K : PySem.W.Frag} {mg : Str → Option Value} {base : Heap}
theorem u66 {k : Nat} {A : Around} (hr : Room k A) : A.units + 66 < cLine := by have := hr.un; omega
theorem u65 {k : Nat} {A : Around} (hr : Room k A) : A.units + 65 < cLine := by have := hr.un; omega
theorem u64 {k : Nat} {A : Around} (hr : Room k A) : A.units + 64 < cLine := by have := hr.un; omega
theorem u0 {k : Nat} {A : Around} (hr : Room k A) : A.units < cLine := by have := hr.un; omega
/-! ### _law_draws -/
def Below (ds ts : List Int) : Prop := ∀ (i : Nat) (v : Int), ds[i]? = some v → ∃ m, ts[i]? = some m ∧ 0 ≤ v ∧ v < m
theorem Below.nil {ts : List Int} : Below [] ts := fun i v h => by simp at h
theorem Below.snoc {ds ts : List Int} {v m : Int} (h : Below ds ts) (e : ts[ds.length]? = some m) (h0 : 0 ≤ v) (h1 : v < m) : Below (ds ++ [v]) ts := fun i u hu => by
  by_cases c : i < ds.length
  · exact h i u (by rw [List.getElem?_append_left c] at hu; exact hu)
  · rw [List.getElem?_append_right (by omega)] at hu
    have z : i - ds.length = 0 := by
      cases q : i - ds.length with
      | zero => rfl
      | succ n => rw [q] at hu; simp at hu
    rw [z] at hu
    simp at hu
    subst hu
    have : i = ds.length := by omega
    subst this
    exact ⟨m, e, h0, h1⟩
def spDraws : Sp := fun vs H Q _ => ∃ (t : Addr) (c : Int) (ts : List Int), vs = [.int c, .ref t] ∧ H t = some (.lst (ts.map V.int)) ∧ Builtin.Int.intBits c ≤ 1048576 ∧
  (∀ x ∈ ts, 0 < x ∧ x.natAbs < 2 ^ 250) ∧ ts.length ≤ 10 ∧ ∀ (l : Addr) (ds : List Int), H l = none → ds.length = ts.length → Below ds ts → Q (.ref l) (upd H l (.lst (ds.map V.int)))
theorem bits_le {c : Int} {n : Nat} (h : Builtin.Int.intBits c ≤ n) : c.natAbs < 2 ^ n := by
  unfold Builtin.Int.intBits at h
  by_cases z : c = 0
  · subst z; exact Nat.two_pow_pos n
  · have z' : (c == 0) = false := by simpa using z
    rw [z', if_neg (by simp)] at h
    exact Nat.lt_of_lt_of_le (Nat.lt_log2_self) (Nat.pow_le_pow_right (by decide) h)
theorem bits_add {c d : Int} {n : Nat} (h : Builtin.Int.intBits c ≤ n) (hd : d.natAbs < 2 ^ n) : Builtin.Int.intBits (c + d) ≤ n + 1 := by
  have h1 := bits_le h
  refine PyProof.Rows.intBits_le ?_
  have h2 : (2 : Nat) ^ (n + 1) = 2 ^ n + 2 ^ n := by rw [Nat.pow_succ]; omega
  rw [h2]
  have : (c + d).natAbs ≤ c.natAbs + d.natAbs := Int.natAbs_add_le c d
  omega
theorem pow_cell {c d : Int} (h : Builtin.Int.intBits c ≤ 1048576) (hd : d.natAbs < 2 ^ 64) : CPowB (c + d) 3 := by
  refine ⟨by decide, ?_⟩
  have := bits_add (d := d) h (Nat.lt_of_lt_of_le hd (Nat.pow_le_pow_right (by decide) (by decide)))
  have e : (2 : Int) ^ 27 = 134217728 := by decide
  rw [e]
  omega
theorem sc_law_draws : FnScope ["cell", "tops", "out", "rest", "k", "one"] ["cell", "tops"] (defScope s_law_draws) :=
  ⟨rfl, rfl, rfl, by decide +kernel, rfl, by decide +kernel, by decide +kernel⟩
theorem ok_draws (F : Fn K mg "_law_draws" s_law_draws) (T : BlD mg) : Cal P w K mg base "_law_draws" 1 ["cell", "tops"] spDraws := by
  refine cal_of F sc_law_draws
    (fun _ _ _ _ _ _ us hl => match us, hl with | [_, _], _ => rfl) ?_ ?_
  · rintro vs H Q E ⟨t, c, ts, rfl, _⟩
    rfl
  rintro f cdv A outer s H vs Q E free hr ⟨t, c, ts, rfl, ht, hc, pos, tl, q⟩
  refine ⟨_, (pss_cons (ps_set (i := 2) sc_law_draws.nd rfl (Or.inl rfl) (pe_lst pa_nil))
    (pss_cons (ps_set (i := 3) sc_law_draws.nd rfl (Or.inl rfl) (pe_op op_sub (pv 0) (pe_op op_pow pe_int pe_int)))
    (pss_cons (ps_for PassesOwn.never rfl (pi_range1 (by rfl) T.range (pa_cons (pe_callB call_len_seq (by rfl) T.len (by decide +kernel) (pa_cons (pv 1) pa_nil)) pa_nil)) (pg_name (i := 4) sc_law_draws.nd rfl (Or.inl rfl))
    (pss_one (ps_if (pt_cmpR op_ge (pv 3) pe_int (nomark _))
    (pss_cons (ps_expr (pe_bm PySem.F.plainAttrs_list PySem.F.slot_list_append PySem.F.type_list_append mt_append (pv 2) (pa_cons (pe_op op_mod (pv 3) (pe_ix ix_list (pv 1) (pv 4) (fun _ _ => rfl))) pa_nil)))
    (pss_one (ps_set (i := 3) sc_law_draws.nd rfl (Or.inl rfl) (pe_op op_fdivW (pv 3) (pe_ix ix_list (pv 1) (pv 4) (fun _ _ => rfl))))))
    (pss_cons (ps_set (i := 5) sc_law_draws.nd rfl (Or.inl rfl) (pe_op op_mod (pe_op op_powB (pe_op op_add (pv 0) (pe_op op_mul pe_int (pe_op op_add (pv 4) pe_int))) pe_int) pe_int))
    (pss_cons (ps_set (i := 5) sc_law_draws.nd rfl (Or.inl rfl) (pe_op op_fdivW (pe_op op_mod (pe_op op_mul (pv 5) (pe_op op_add (pv 5) pe_int)) pe_int) pe_int))
    (pss_cons (ps_if (pt_cmpR op_gt (pe_ix ix_list (pv 1) (pv 4) (fun _ _ => rfl)) (pe_op op_pow pe_int pe_int) (nomark _))
    (pss_one (ps_set (i := 5) sc_law_draws.nd rfl (Or.inl rfl) (pe_op op_pow (pv 5) pe_int)))
    pss_nil)
    (pss_one (ps_expr (pe_bm PySem.F.plainAttrs_list PySem.F.slot_list_append PySem.F.type_list_append mt_append (pv 2) (pa_cons (pe_op op_mod (pv 5) (pe_ix ix_list (pv 1) (pv 4) (fun _ _ => rfl))) pa_nil))))))))))
    (pss_one (ps_ret (pv 2)))))), ?_⟩
  refine ⟨Nat.zero_le _, fun D hD => ?_⟩
  have nDt : t ≠ D := ne_of_none ht hD
  refine ⟨_, rfl, _, _, rfl, rfl, ⟨by decide, by decide, by decide⟩, _, _, rfl, rfl, ?_⟩
  refine ⟨_, rfl, t, _, rfl, .inl (SqL.of (same_upd hD _ _ ht)), _, rfl, ?_⟩
  have hl : (ts.map V.int).length = ts.length := List.length_map _
  rw [hl]
  refine ⟨by omega, by omega, ?_⟩
  refine for_range (lo := 0) (n := ts.length) (fun i σ G => ∃ (r : Int) (k o : Option V) (ds : List Int), σ = [some (V.int c), some (V.ref t), some (V.ref D), some (V.int r), k, o] ∧
    G = upd H D (.lst (ds.map V.int)) ∧ ds.length = i ∧ Below ds ts)
    ⟨_, _, _, [], rfl, rfl, rfl, Below.nil⟩ ?_ ?_
  · rintro i σ G hi ⟨r, k, o, ds, rfl, rfl, hds, hb⟩
    have ik : i < ts.length := hi
    obtain ⟨m, hm⟩ : ∃ m, m = ts[i] := ⟨_, rfl⟩
    have tsi : ts[ds.length]? = some m := by rw [hds, hm]; exact List.getElem?_eq_getElem ik
    have at_ : atI (ts.map V.int) (0 + (i : Int)) = some (.int m) := by
      have e : (0 : Int) + (i : Int) = ((i : Nat) : Int) := by omega
      rw [e]
      exact atI_nat (by rw [List.getElem?_map, List.getElem?_eq_getElem ik, ← hm] <;> rfl)
    obtain ⟨m0, mb⟩ := pos m (by rw [hm]; exact List.getElem_mem ik)
    have hT : upd H D (.lst (ds.map V.int)) t = some (.lst (ts.map V.int)) := same_upd hD _ _ ht
    have self : upd H D (.lst (ds.map V.int)) D = some (.lst (ds.map V.int)) := upd_same
    have sm : ds.length < sizeLine := Nat.lt_of_lt_of_le (show ds.length < 100 by omega) (by decide)
    refine ⟨_, rfl, _, _, rfl, rfl, _, rfl, ?_⟩
    refine ite2 (fun c1 => ?_) (fun c1 => ?_)
    · refine ⟨_, rfl, .inl ⟨rfl, _, SqL.of self⟩, _, rfl, _, rfl, _, rfl, t, _, _, _, rfl, rfl, SqL.of hT, at_, _, _, rfl, rfl, m0, ?_⟩
      refine ⟨D, _, _, rfl, rfl, self, by rw [List.length_map]; exact sm, ?_⟩
      rw [upd_upd]
      refine ⟨_, rfl, _, rfl, _, rfl, t, _, _, _, rfl, rfl, SqL.of (same_upd hD _ _ ht), at_, _, _, rfl, rfl, wide_div m0 mb (by decide) (by decide), ?_⟩
      exact ⟨_, _, _, ds ++ [r % m], rfl, by rw [List.map_append]; rfl, by rw [List.length_append, List.length_singleton]; omega,
        hb.snoc tsi (Int.emod_nonneg _ (by omega)) (Int.emod_lt_of_pos _ m0)⟩
    · refine ⟨_, rfl, _, rfl, _, _, rfl, rfl, _, _, rfl, rfl, .inl ⟨by decide, by decide⟩, _, _, rfl, rfl, _, _, rfl, rfl, pow_cell hc ?_, _, _, rfl, rfl, (by show (0 : Int) < 2147483629; decide), ?_⟩
      · have : (7919 * (0 + (i : Int) + 1)).natAbs < 2 ^ 64 := by omega
        exact this
      generalize ho : (c + 7919 * (0 + (i : Int) + 1)) ^ (Int.toNat 3) % 2147483629 = one
      have o0 : 0 ≤ one := by rw [← ho]; exact Int.emod_nonneg _ (by decide)
      have o1 : one < 2147483629 := by rw [← ho]; exact Int.emod_lt_of_pos _ (by decide)
      refine ⟨_, rfl, _, rfl, _, _, rfl, rfl, _, _, rfl, rfl, .inl ⟨by omega, by omega⟩, _, _, rfl, rfl, (by show (0 : Int) < 2147483587; decide), _, _, rfl, rfl, wide_div (b := 10) (by decide) (by decide) (by decide) (by decide), ?_⟩
      generalize hu : one * (one + 104729) % 2147483587 / 8 = two
      have u0 : 0 ≤ two := by rw [← hu]; exact Int.ediv_nonneg (Int.emod_nonneg _ (by decide)) (by decide)
      have u1 : two < 2147483587 := by
        have := Int.emod_lt_of_pos (one * (one + 104729)) (show (0 : Int) < 2147483587 by decide)
        rw [← hu]
        omega
      refine ⟨_, rfl, _, rfl, t, _, _, _, rfl, rfl, SqL.of hT, at_, _, _, rfl, rfl, ⟨by decide, by decide, by decide⟩, _, _, rfl, rfl, _, rfl, ?_⟩
      refine ite2 (fun c2 => ?_) (fun c2 => ?_)
      · have h2 : two.natAbs < 2 ^ 64 := by omega
        refine ⟨_, rfl, _, _, rfl, rfl, ⟨by decide, by decide, (by subst hu; subst ho; exact h2)⟩, ?_⟩
        obtain ⟨six, hs⟩ : ∃ six, six = two ^ (Int.toNat 6) := ⟨_, rfl⟩
        refine ⟨_, rfl, .inl ⟨rfl, _, SqL.of self⟩, _, rfl, _, rfl, _, rfl, t, _, _, _, rfl, rfl, SqL.of hT, at_, _, _, rfl, rfl, m0, ?_⟩
        refine ⟨D, _, _, rfl, rfl, self, by rw [List.length_map]; exact sm, ?_⟩
        rw [upd_upd]
        exact ⟨_, _, _, ds ++ [six % m], rfl, by rw [List.map_append]; (subst hs; subst hu; subst ho); rfl, by rw [List.length_append, List.length_singleton]; omega,
          hb.snoc tsi (Int.emod_nonneg _ (by omega)) (Int.emod_lt_of_pos _ m0)⟩
      · skip
        refine ⟨_, rfl, .inl ⟨rfl, _, SqL.of self⟩, _, rfl, _, rfl, _, rfl, t, _, _, _, rfl, rfl, SqL.of hT, at_, _, _, rfl, rfl, m0, ?_⟩
        refine ⟨D, _, _, rfl, rfl, self, by rw [List.length_map]; exact sm, ?_⟩
        rw [upd_upd]
        exact ⟨_, _, _, ds ++ [two % m], rfl, by rw [List.map_append]; (subst hu; subst ho); rfl, by rw [List.length_append, List.length_singleton]; omega,
          hb.snoc tsi (Int.emod_nonneg _ (by omega)) (Int.emod_lt_of_pos _ m0)⟩
  · rintro σ G ⟨r, k, o, ds, rfl, rfl, hds, hb⟩
    exact ⟨_, rfl, q D ds hD hds hb⟩
end

end G0
namespace G0
open PySem PySem.Spec PyProof.Rows L2
section
variable {P : Program} {w : World} {K : PySem.W.Frag} {mg : Str → Option Value} {base : Heap}
/-! ### _law_same -/
inductive Lv : Nat → PyData → Prop
  | non {n : Nat} : Lv n .none
  | bl {n : Nat} (b : Bool) : Lv n (.bool b)
  | int {n : Nat} (i : Int) : Lv n (.int i)
  | str {n : Nat} (z : Str) : Lv n (.str z)
  | tup {n : Nat} {ds : List PyData} : ds.length < 10000 → (∀ d ∈ ds, Lv n d) → Lv (n + 1) (.tuple ds)
def spSameD (K : PySem.W.Frag) (n : Nat) : Sp := fun vs H Q _ => ∃ (x y : V), vs = [x, y] ∧
  ((∃ d, Lv n d ∧ Dp K H x d ∧ Dp K H y d) ∨
    ∃ (a b : Addr) (xs ys : List V) (ds : List PyData) (m : Nat), x = .ref a ∧ y = .ref b ∧ H a = some (.lst xs) ∧ H b = some (.lst ys) ∧ DpAll K H xs ds ∧ DpAll K H ys ds ∧ n = m + 1 ∧ ds.length < 10000 ∧ ∀ d ∈ ds, Lv m d) ∧ Q (.bl true) H
def spSameP (K : PySem.W.Frag) (n : Nat) : Sp := fun vs H Q E => ∃ m, n = m + 1 ∧ spSameD K m vs H Q E
theorem ty_sqt {H : Hp} {a : Addr} {xs : List V} (h : SqT K H a xs) : TyX K H (.ref a) (.type "tuple") := by
  rcases h with (h | ⟨o, h⟩) | ⟨o, its, n, h1, h2, _⟩
  · exact .base (.tup h)
  · exact .fTuple h
  · exact .kTuple h1 h2
theorem dps_get {H : Hp} {vs : List V} {ds : List PyData} (h : DpAll K H vs ds) : ∀ {i : Nat}, i < ds.length → ∃ v d, vs[i]? = some v ∧ ds[i]? = some d ∧ Dp K H v d := by
  match vs, ds, h with
  | [], [], _ => intro i e; simp at e
  | v :: vs, d :: ds, .cons h1 h2 =>
    intro i e
    cases i with
    | zero => exact ⟨v, d, rfl, rfl, h1⟩
    | succ i => exact dps_get h2 (by simpa using e)
theorem sc_law_same : FnScope ["found", "due", "k"] ["found", "due"] (defScope s_law_same) :=
  ⟨rfl, rfl, rfl, by decide +kernel, rfl, by decide +kernel, by decide +kernel⟩
theorem same_step {n j : Nat} (F : Fn K mg "_law_same" s_law_same) (T : BlD mg) (C_same : Cal P w K mg base "_law_same" j ["found", "due"] (spSameP K n)) :
    Cal P w K mg base "_law_same" (j + 1) ["found", "due"] (spSameD K n) := by
  refine cal_of F sc_law_same
    (fun _ _ _ _ _ _ us hl => match us, hl with | [_, _], _ => rfl) ?_ ?_
  · rintro vs H Q E ⟨x, y, rfl, _⟩
    rfl
  rintro f cdv A outer s H vs Q E free hr ⟨x, y, rfl, two, q⟩
  refine ⟨_, (pss_cons (ps_if (PW.pt (pw_or (pt_val (pe_callB call_isi (by rfl) T.isinstance (by decide +kernel) (pa_cons (pv 1) (pa_cons (pe_bltn (v := .ty "tuple") (by rfl) T.tuple (by decide +kernel) rfl) pa_nil)))) (pw_or1 (pt_val (pe_callB call_isi (by rfl) T.isinstance (by decide +kernel) (pa_cons (pv 1) (pa_cons (pe_bltn (v := .ty "list") (by rfl) T.list (by decide +kernel) rfl) pa_nil)))))))
    (pss_cons (ps_if (PW.pt (pw_or (pt_cmpR op_ne (pe_callB call_isi (by rfl) T.isinstance (by decide +kernel) (pa_cons (pv 0) (pa_cons (pe_bltn (v := .ty "tuple") (by rfl) T.tuple (by decide +kernel) rfl) pa_nil))) (pe_callB call_isi (by rfl) T.isinstance (by decide +kernel) (pa_cons (pv 1) (pa_cons (pe_bltn (v := .ty "tuple") (by rfl) T.tuple (by decide +kernel) rfl) pa_nil))) (nomark _)) (pw_or1 (pt_cmpR op_ne (pe_callB call_isi (by rfl) T.isinstance (by decide +kernel) (pa_cons (pv 0) (pa_cons (pe_bltn (v := .ty "list") (by rfl) T.list (by decide +kernel) rfl) pa_nil))) (pe_callB call_isi (by rfl) T.isinstance (by decide +kernel) (pa_cons (pv 1) (pa_cons (pe_bltn (v := .ty "list") (by rfl) T.list (by decide +kernel) rfl) pa_nil))) (nomark _)))))
    (pss_one (ps_ret pe_bl))
    pss_nil)
    (pss_cons (ps_if (pt_cmpR op_ne (pe_callB call_len_seq (by rfl) T.len (by decide +kernel) (pa_cons (pv 0) pa_nil)) (pe_callB call_len_seq (by rfl) T.len (by decide +kernel) (pa_cons (pv 1) pa_nil)) (nomark _))
    (pss_one (ps_ret pe_bl))
    pss_nil)
    (pss_cons (ps_for PassesOwn.never rfl (pi_range1 (by rfl) T.range (pa_cons (pe_callB call_len_seq (by rfl) T.len (by decide +kernel) (pa_cons (pv 1) pa_nil)) pa_nil)) (pg_name (i := 2) sc_law_same.nd rfl (Or.inl rfl))
    (pss_one (ps_if (pt_not (pt_val (pe_cal C_same free hr (pa_cons (pe_ix ix_seq (pv 0) (pv 2) (fun _ _ => rfl)) (pa_cons (pe_ix ix_seq (pv 1) (pv 2) (fun _ _ => rfl)) pa_nil)))))
    (pss_one (ps_ret pe_bl))
    pss_nil)))
    (pss_one (ps_ret pe_bl)))))
    pss_nil)
    (pss_one (ps_ret (pe_and (pe_cmpR op_eq (pe_callB call_isi (by rfl) T.isinstance (by decide +kernel) (pa_cons (pv 0) (pa_cons (pe_bltn (v := .ty "bool") (by rfl) T.bool (by decide +kernel) rfl) pa_nil))) (pe_callB call_isi (by rfl) T.isinstance (by decide +kernel) (pa_cons (pv 1) (pa_cons (pe_bltn (v := .ty "bool") (by rfl) T.bool (by decide +kernel) rfl) pa_nil))) (nomark _)) (pe_one (pe_cmpR op_eq (pv 0) (pv 1) (nomark _))))))), ?_⟩
  rcases two with ⟨d, lv, hx, hy⟩ | ⟨a, b, xs, ys, ds, m, rfl, rfl, ha, hb, hxs, hys, rfl, sm, hl⟩
  · cases lv with
    | non =>
      cases hx; cases hy
      refine ⟨_, rfl, _, .ty "tuple", _, _, _, rfl, .ty _, .base .non, kit_ty (r := false) (by decide +kernel), _, rfl, iteF' rfl ?_⟩
      refine ⟨_, rfl, _, .ty "list", _, _, _, rfl, .ty _, .base .non, kit_ty (r := false) (by decide +kernel), _, rfl, iteF' rfl ?_⟩
      refine ⟨_, rfl, _, .ty "bool", _, _, _, rfl, .ty _, .base .non, kit_ty (r := false) (by decide +kernel), _, rfl, _, .ty "bool", _, _, _, rfl, .ty _, .base .non, kit_ty (r := false) (by decide +kernel), rfl, ?_⟩
      refine ⟨_, by rw [decide_eq_true rfl], ?_⟩
      refine iteT ?_
      refine ⟨_, rfl, _, rfl, rfl, ?_⟩
      rw [decide_eq_true rfl]
      exact q
    | bl b =>
      cases hx; cases hy
      refine ⟨_, rfl, _, .ty "tuple", _, _, _, rfl, .ty _, .base (.bl _), kit_ty (r := false) (by decide +kernel), _, rfl, iteF' rfl ?_⟩
      refine ⟨_, rfl, _, .ty "list", _, _, _, rfl, .ty _, .base (.bl _), kit_ty (r := false) (by decide +kernel), _, rfl, iteF' rfl ?_⟩
      refine ⟨_, rfl, _, .ty "bool", _, _, _, rfl, .ty _, .base (.bl _), kit_ty (r := true) (by decide +kernel), _, rfl, _, .ty "bool", _, _, _, rfl, .ty _, .base (.bl _), kit_ty (r := true) (by decide +kernel), rfl, ?_⟩
      refine ⟨_, by rw [decide_eq_true rfl], ?_⟩
      refine iteT ?_
      refine ⟨_, rfl, _, rfl, rfl, ?_⟩
      rw [decide_eq_true rfl]
      exact q
    | int i =>
      cases hx; cases hy
      refine ⟨_, rfl, _, .ty "tuple", _, _, _, rfl, .ty _, .base (.int _), kit_ty (r := false) (by decide +kernel), _, rfl, iteF' rfl ?_⟩
      refine ⟨_, rfl, _, .ty "list", _, _, _, rfl, .ty _, .base (.int _), kit_ty (r := false) (by decide +kernel), _, rfl, iteF' rfl ?_⟩
      refine ⟨_, rfl, _, .ty "bool", _, _, _, rfl, .ty _, .base (.int _), kit_ty (r := false) (by decide +kernel), _, rfl, _, .ty "bool", _, _, _, rfl, .ty _, .base (.int _), kit_ty (r := false) (by decide +kernel), rfl, ?_⟩
      refine ⟨_, by rw [decide_eq_true rfl], ?_⟩
      refine iteT ?_
      refine ⟨_, rfl, _, rfl, rfl, ?_⟩
      rw [decide_eq_true rfl]
      exact q
    | str z =>
      cases hx; cases hy
      refine ⟨_, rfl, _, .ty "tuple", _, _, _, rfl, .ty _, .base (.str _), kit_ty (r := false) (by decide +kernel), _, rfl, iteF' rfl ?_⟩
      refine ⟨_, rfl, _, .ty "list", _, _, _, rfl, .ty _, .base (.str _), kit_ty (r := false) (by decide +kernel), _, rfl, iteF' rfl ?_⟩
      refine ⟨_, rfl, _, .ty "bool", _, _, _, rfl, .ty _, .base (.str _), kit_ty (r := false) (by decide +kernel), _, rfl, _, .ty "bool", _, _, _, rfl, .ty _, .base (.str _), kit_ty (r := false) (by decide +kernel), rfl, ?_⟩
      refine ⟨_, by rw [decide_eq_true rfl], ?_⟩
      refine iteT ?_
      refine ⟨_, rfl, _, rfl, rfl, ?_⟩
      rw [decide_eq_true rfl]
      exact q
    | tup sm hl =>
      cases hx with
      | tup hx hxs =>
      cases hy with
      | tup hy hys =>
      rename_i m ds a xs b ys
      have lxy : xs.length = ys.length := (dps_len hxs).trans (dps_len hys).symm
      have ly := dps_len hys
      refine ⟨_, rfl, _, .ty "tuple", _, _, _, rfl, .ty _, ty_sqt hy, kit_ty (r := true) (by decide +kernel), _, rfl, iteT' rfl ?_⟩
      refine iteT ?_
      refine ⟨_, rfl, _, .ty "tuple", _, _, _, rfl, .ty _, ty_sqt hx, kit_ty (r := true) (by decide +kernel), _, rfl, _, .ty "tuple", _, _, _, rfl, .ty _, ty_sqt hy, kit_ty (r := true) (by decide +kernel), rfl, ?_⟩
      refine ⟨_, by rw [decide_eq_true rfl], ?_⟩
      refine iteF' rfl ?_
      refine ⟨_, rfl, _, .ty "list", _, _, _, rfl, .ty _, (ty_sqt hx), kit_ty (r := false) (by decide +kernel), _, rfl, _, .ty "list", _, _, _, rfl, .ty _, (ty_sqt hy), kit_ty (r := false) (by decide +kernel), rfl, ?_⟩
      refine ⟨_, by rw [decide_eq_true rfl], ?_⟩
      refine iteF' rfl ?_
      refine ⟨_, rfl, a, xs, rfl, (.inr hx), _, rfl, b, ys, rfl, (.inr hy), rfl, ?_⟩
      refine ⟨_, by rw [lxy, decide_eq_true rfl], ?_⟩
      refine iteF' rfl ?_
      refine ⟨_, rfl, b, ys, rfl, (.inr hy), _, rfl, by omega, by omega, ?_⟩
      refine for_range (lo := 0) (n := ys.length) (fun i σ G => (∃ k : Option V, σ = [some (V.ref a), some (V.ref b), k]) ∧ G = H) ⟨⟨_, rfl⟩, rfl⟩ ?_ ?_
      · rintro i σ G hi ⟨⟨k, rfl⟩, rfl⟩
        obtain ⟨v, d, e1, e2, dv⟩ := dps_get hxs (i := i) (by omega)
        obtain ⟨u, d', e3, e4, du⟩ := dps_get hys (i := i) (by omega)
        have dd : d' = d := by rw [e2] at e4; exact (Option.some.inj e4).symm
        subst dd
        have ei : (0 : Int) + (i : Int) = ((i : Nat) : Int) := by omega
        have a1 : atI xs (0 + (i : Int)) = some v := by rw [ei]; exact atI_nat e1
        have a2 : atI ys (0 + (i : Int)) = some u := by rw [ei]; exact atI_nat e3
        refine ⟨_, rfl, _, rfl, (.inr (.inl ⟨a, xs, _, v, rfl, rfl, hx, a1, _, rfl, _, rfl, (.inr (.inl ⟨b, ys, _, u, rfl, rfl, hy, a2, ?_⟩))⟩))⟩
        refine ⟨m, rfl, v, u, rfl, .inl ⟨d', hl _ (List.mem_of_getElem? e2), dv, du⟩, ?_⟩
        refine ⟨_, rfl, ?_⟩
        refine iteF' rfl ?_
        exact ⟨⟨_, rfl⟩, rfl⟩
      · rintro σ G ⟨⟨k, rfl⟩, rfl⟩
        exact q
  · have lxy : xs.length = ys.length := (dps_len hxs).trans (dps_len hys).symm
    have ly := dps_len hys
    refine ⟨_, rfl, _, .ty "tuple", _, _, _, rfl, .ty _, .base (.lst hb), kit_ty (r := false) (by decide +kernel), _, rfl, iteF' rfl ?_⟩
    refine ⟨_, rfl, _, .ty "list", _, _, _, rfl, .ty _, .base (.lst hb), kit_ty (r := true) (by decide +kernel), _, rfl, iteT' rfl ?_⟩
    refine ⟨_, rfl, _, .ty "tuple", _, _, _, rfl, .ty _, .base (.lst ha), kit_ty (r := false) (by decide +kernel), _, rfl, _, .ty "tuple", _, _, _, rfl, .ty _, .base (.lst hb), kit_ty (r := false) (by decide +kernel), rfl, ?_⟩
    refine ⟨_, by rw [decide_eq_true rfl], ?_⟩
    refine iteF' rfl ?_
    refine ⟨_, rfl, _, .ty "list", _, _, _, rfl, .ty _, (.base (.lst ha)), kit_ty (r := true) (by decide +kernel), _, rfl, _, .ty "list", _, _, _, rfl, .ty _, (.base (.lst hb)), kit_ty (r := true) (by decide +kernel), rfl, ?_⟩
    refine ⟨_, by rw [decide_eq_true rfl], ?_⟩
    refine iteF' rfl ?_
    refine ⟨_, rfl, a, xs, rfl, (.inl (SqL.of ha)), _, rfl, b, ys, rfl, (.inl (SqL.of hb)), rfl, ?_⟩
    refine ⟨_, by rw [lxy, decide_eq_true rfl], ?_⟩
    refine iteF' rfl ?_
    refine ⟨_, rfl, b, ys, rfl, (.inl (SqL.of hb)), _, rfl, by omega, by omega, ?_⟩
    refine for_range (lo := 0) (n := ys.length) (fun i σ G => (∃ k : Option V, σ = [some (V.ref a), some (V.ref b), k]) ∧ G = H) ⟨⟨_, rfl⟩, rfl⟩ ?_ ?_
    · rintro i σ G hi ⟨⟨k, rfl⟩, rfl⟩
      obtain ⟨v, d, e1, e2, dv⟩ := dps_get hxs (i := i) (by omega)
      obtain ⟨u, d', e3, e4, du⟩ := dps_get hys (i := i) (by omega)
      have dd : d' = d := by rw [e2] at e4; exact (Option.some.inj e4).symm
      subst dd
      have ei : (0 : Int) + (i : Int) = ((i : Nat) : Int) := by omega
      have a1 : atI xs (0 + (i : Int)) = some v := by rw [ei]; exact atI_nat e1
      have a2 : atI ys (0 + (i : Int)) = some u := by rw [ei]; exact atI_nat e3
      refine ⟨_, rfl, _, rfl, (.inl ⟨a, xs, _, v, rfl, rfl, (SqL.of ha), a1, _, rfl, _, rfl, (.inl ⟨b, ys, _, u, rfl, rfl, (SqL.of hb), a2, ?_⟩)⟩)⟩
      refine ⟨m, rfl, v, u, rfl, .inl ⟨d', hl _ (List.mem_of_getElem? e2), dv, du⟩, ?_⟩
      refine ⟨_, rfl, ?_⟩
      refine iteF' rfl ?_
      exact ⟨⟨_, rfl⟩, rfl⟩
    · rintro σ G ⟨⟨k, rfl⟩, rfl⟩
      exact q
theorem ok_sames (F : Fn K mg "_law_same" s_law_same) (T : BlD mg) : ∀ n, Cal P w K mg base "_law_same" (n + 1) ["found", "due"] (spSameD K n)
  | 0 => same_step F T ((cal_no (P := P) (w := w) (base := base) F (ps := ["found", "due"]) (fun _ _ _ _ _ _ us hl => match us, hl with | [_, _], _ => rfl) ).imp (fun _ _ _ _ ⟨m, e, _⟩ => absurd e (Nat.succ_ne_zero m).symm))
  | n + 1 => same_step F T ((ok_sames F T n).imp (fun vs H Q E ⟨m, e, h⟩ => by have e' : n = m := by omega
                                                                               rw [e']; exact h))
end

end G0
namespace G0
open PySem PySem.Spec PyProof.Rows L2
theorem n_voF_me_stt : (("me" : Str) = "state") = False := eq_false (by decide +kernel)
theorem n_voF_me_sits : (("me" : Str) = "sits") = False := eq_false (by decide +kernel)
theorem n_voF_me_cnt : (("me" : Str) = "count") = False := eq_false (by decide +kernel)
theorem n_voF_me_stp : (("me" : Str) = "stamp") = False := eq_false (by decide +kernel)
theorem n_voF_me_hnd : (("me" : Str) = "hand") = False := eq_false (by decide +kernel)
theorem n_voF_me_knw : (("me" : Str) = "known") = False := eq_false (by decide +kernel)
theorem n_voF_me_dsk : (("me" : Str) = "desk") = False := eq_false (by decide +kernel)
theorem n_voF_me_sets : (("me" : Str) = "_sets") = False := eq_false (by decide +kernel)
theorem n_voF_me_fst : (("me" : Str) = "_first") = False := eq_false (by decide +kernel)
theorem n_voF_me_sett : (("me" : Str) = "_set") = False := eq_false (by decide +kernel)
theorem n_voF_stt_me : (("state" : Str) = "me") = False := eq_false (by decide +kernel)
theorem n_voF_stt_sits : (("state" : Str) = "sits") = False := eq_false (by decide +kernel)
theorem n_voF_stt_cnt : (("state" : Str) = "count") = False := eq_false (by decide +kernel)
theorem n_voF_stt_stp : (("state" : Str) = "stamp") = False := eq_false (by decide +kernel)
theorem n_voF_stt_hnd : (("state" : Str) = "hand") = False := eq_false (by decide +kernel)
theorem n_voF_stt_knw : (("state" : Str) = "known") = False := eq_false (by decide +kernel)
theorem n_voF_stt_dsk : (("state" : Str) = "desk") = False := eq_false (by decide +kernel)
theorem n_voF_stt_sets : (("state" : Str) = "_sets") = False := eq_false (by decide +kernel)
theorem n_voF_stt_fst : (("state" : Str) = "_first") = False := eq_false (by decide +kernel)
theorem n_voF_stt_sett : (("state" : Str) = "_set") = False := eq_false (by decide +kernel)
theorem n_voF_sits_me : (("sits" : Str) = "me") = False := eq_false (by decide +kernel)
theorem n_voF_sits_stt : (("sits" : Str) = "state") = False := eq_false (by decide +kernel)
theorem n_voF_sits_cnt : (("sits" : Str) = "count") = False := eq_false (by decide +kernel)
theorem n_voF_sits_stp : (("sits" : Str) = "stamp") = False := eq_false (by decide +kernel)
theorem n_voF_sits_hnd : (("sits" : Str) = "hand") = False := eq_false (by decide +kernel)
theorem n_voF_sits_knw : (("sits" : Str) = "known") = False := eq_false (by decide +kernel)
theorem n_voF_sits_dsk : (("sits" : Str) = "desk") = False := eq_false (by decide +kernel)
theorem n_voF_sits_sets : (("sits" : Str) = "_sets") = False := eq_false (by decide +kernel)
theorem n_voF_sits_fst : (("sits" : Str) = "_first") = False := eq_false (by decide +kernel)
theorem n_voF_sits_sett : (("sits" : Str) = "_set") = False := eq_false (by decide +kernel)
theorem n_voF_cnt_me : (("count" : Str) = "me") = False := eq_false (by decide +kernel)
theorem n_voF_cnt_stt : (("count" : Str) = "state") = False := eq_false (by decide +kernel)
theorem n_voF_cnt_sits : (("count" : Str) = "sits") = False := eq_false (by decide +kernel)
theorem n_voF_cnt_stp : (("count" : Str) = "stamp") = False := eq_false (by decide +kernel)
theorem n_voF_cnt_hnd : (("count" : Str) = "hand") = False := eq_false (by decide +kernel)
theorem n_voF_cnt_knw : (("count" : Str) = "known") = False := eq_false (by decide +kernel)
theorem n_voF_cnt_dsk : (("count" : Str) = "desk") = False := eq_false (by decide +kernel)
theorem n_voF_cnt_sets : (("count" : Str) = "_sets") = False := eq_false (by decide +kernel)
theorem n_voF_cnt_fst : (("count" : Str) = "_first") = False := eq_false (by decide +kernel)
theorem n_voF_cnt_sett : (("count" : Str) = "_set") = False := eq_false (by decide +kernel)
theorem n_voF_stp_me : (("stamp" : Str) = "me") = False := eq_false (by decide +kernel)
theorem n_voF_stp_stt : (("stamp" : Str) = "state") = False := eq_false (by decide +kernel)
theorem n_voF_stp_sits : (("stamp" : Str) = "sits") = False := eq_false (by decide +kernel)
theorem n_voF_stp_cnt : (("stamp" : Str) = "count") = False := eq_false (by decide +kernel)
theorem n_voF_stp_hnd : (("stamp" : Str) = "hand") = False := eq_false (by decide +kernel)
theorem n_voF_stp_knw : (("stamp" : Str) = "known") = False := eq_false (by decide +kernel)
theorem n_voF_stp_dsk : (("stamp" : Str) = "desk") = False := eq_false (by decide +kernel)
theorem n_voF_stp_sets : (("stamp" : Str) = "_sets") = False := eq_false (by decide +kernel)
theorem n_voF_stp_fst : (("stamp" : Str) = "_first") = False := eq_false (by decide +kernel)
theorem n_voF_stp_sett : (("stamp" : Str) = "_set") = False := eq_false (by decide +kernel)
theorem n_voF_hnd_me : (("hand" : Str) = "me") = False := eq_false (by decide +kernel)
theorem n_voF_hnd_stt : (("hand" : Str) = "state") = False := eq_false (by decide +kernel)
theorem n_voF_hnd_sits : (("hand" : Str) = "sits") = False := eq_false (by decide +kernel)
theorem n_voF_hnd_cnt : (("hand" : Str) = "count") = False := eq_false (by decide +kernel)
theorem n_voF_hnd_stp : (("hand" : Str) = "stamp") = False := eq_false (by decide +kernel)
theorem n_voF_hnd_knw : (("hand" : Str) = "known") = False := eq_false (by decide +kernel)
theorem n_voF_hnd_dsk : (("hand" : Str) = "desk") = False := eq_false (by decide +kernel)
theorem n_voF_hnd_sets : (("hand" : Str) = "_sets") = False := eq_false (by decide +kernel)
theorem n_voF_hnd_fst : (("hand" : Str) = "_first") = False := eq_false (by decide +kernel)
theorem n_voF_hnd_sett : (("hand" : Str) = "_set") = False := eq_false (by decide +kernel)
theorem n_voF_knw_me : (("known" : Str) = "me") = False := eq_false (by decide +kernel)
theorem n_voF_knw_stt : (("known" : Str) = "state") = False := eq_false (by decide +kernel)
theorem n_voF_knw_sits : (("known" : Str) = "sits") = False := eq_false (by decide +kernel)
theorem n_voF_knw_cnt : (("known" : Str) = "count") = False := eq_false (by decide +kernel)
theorem n_voF_knw_stp : (("known" : Str) = "stamp") = False := eq_false (by decide +kernel)
theorem n_voF_knw_hnd : (("known" : Str) = "hand") = False := eq_false (by decide +kernel)
theorem n_voF_knw_dsk : (("known" : Str) = "desk") = False := eq_false (by decide +kernel)
theorem n_voF_knw_sets : (("known" : Str) = "_sets") = False := eq_false (by decide +kernel)
theorem n_voF_knw_fst : (("known" : Str) = "_first") = False := eq_false (by decide +kernel)
theorem n_voF_knw_sett : (("known" : Str) = "_set") = False := eq_false (by decide +kernel)
theorem n_voF_dsk_me : (("desk" : Str) = "me") = False := eq_false (by decide +kernel)
theorem n_voF_dsk_stt : (("desk" : Str) = "state") = False := eq_false (by decide +kernel)
theorem n_voF_dsk_sits : (("desk" : Str) = "sits") = False := eq_false (by decide +kernel)
theorem n_voF_dsk_cnt : (("desk" : Str) = "count") = False := eq_false (by decide +kernel)
theorem n_voF_dsk_stp : (("desk" : Str) = "stamp") = False := eq_false (by decide +kernel)
theorem n_voF_dsk_hnd : (("desk" : Str) = "hand") = False := eq_false (by decide +kernel)
theorem n_voF_dsk_knw : (("desk" : Str) = "known") = False := eq_false (by decide +kernel)
theorem n_voF_dsk_sets : (("desk" : Str) = "_sets") = False := eq_false (by decide +kernel)
theorem n_voF_dsk_fst : (("desk" : Str) = "_first") = False := eq_false (by decide +kernel)
theorem n_voF_dsk_sett : (("desk" : Str) = "_set") = False := eq_false (by decide +kernel)
theorem n_voF_sets_me : (("_sets" : Str) = "me") = False := eq_false (by decide +kernel)
theorem n_voF_sets_stt : (("_sets" : Str) = "state") = False := eq_false (by decide +kernel)
theorem n_voF_sets_sits : (("_sets" : Str) = "sits") = False := eq_false (by decide +kernel)
theorem n_voF_sets_cnt : (("_sets" : Str) = "count") = False := eq_false (by decide +kernel)
theorem n_voF_sets_stp : (("_sets" : Str) = "stamp") = False := eq_false (by decide +kernel)
theorem n_voF_sets_hnd : (("_sets" : Str) = "hand") = False := eq_false (by decide +kernel)
theorem n_voF_sets_knw : (("_sets" : Str) = "known") = False := eq_false (by decide +kernel)
theorem n_voF_sets_dsk : (("_sets" : Str) = "desk") = False := eq_false (by decide +kernel)
theorem n_voF_sets_fst : (("_sets" : Str) = "_first") = False := eq_false (by decide +kernel)
theorem n_voF_sets_sett : (("_sets" : Str) = "_set") = False := eq_false (by decide +kernel)
theorem n_voF_fst_me : (("_first" : Str) = "me") = False := eq_false (by decide +kernel)
theorem n_voF_fst_stt : (("_first" : Str) = "state") = False := eq_false (by decide +kernel)
theorem n_voF_fst_sits : (("_first" : Str) = "sits") = False := eq_false (by decide +kernel)
theorem n_voF_fst_cnt : (("_first" : Str) = "count") = False := eq_false (by decide +kernel)
theorem n_voF_fst_stp : (("_first" : Str) = "stamp") = False := eq_false (by decide +kernel)
theorem n_voF_fst_hnd : (("_first" : Str) = "hand") = False := eq_false (by decide +kernel)
theorem n_voF_fst_knw : (("_first" : Str) = "known") = False := eq_false (by decide +kernel)
theorem n_voF_fst_dsk : (("_first" : Str) = "desk") = False := eq_false (by decide +kernel)
theorem n_voF_fst_sets : (("_first" : Str) = "_sets") = False := eq_false (by decide +kernel)
theorem n_voF_fst_sett : (("_first" : Str) = "_set") = False := eq_false (by decide +kernel)
theorem n_voF_sett_me : (("_set" : Str) = "me") = False := eq_false (by decide +kernel)
theorem n_voF_sett_stt : (("_set" : Str) = "state") = False := eq_false (by decide +kernel)
theorem n_voF_sett_sits : (("_set" : Str) = "sits") = False := eq_false (by decide +kernel)
theorem n_voF_sett_cnt : (("_set" : Str) = "count") = False := eq_false (by decide +kernel)
theorem n_voF_sett_stp : (("_set" : Str) = "stamp") = False := eq_false (by decide +kernel)
theorem n_voF_sett_hnd : (("_set" : Str) = "hand") = False := eq_false (by decide +kernel)
theorem n_voF_sett_knw : (("_set" : Str) = "known") = False := eq_false (by decide +kernel)
theorem n_voF_sett_dsk : (("_set" : Str) = "desk") = False := eq_false (by decide +kernel)
theorem n_voF_sett_sets : (("_set" : Str) = "_sets") = False := eq_false (by decide +kernel)
theorem n_voF_sett_fst : (("_set" : Str) = "_first") = False := eq_false (by decide +kernel)
def voF (me : Int) (stt : Str) (sits : Bool) (cnt : Int) (stp : V) (hnd : Addr) (knw : Addr) (dsk : Addr) (sets : Addr) (fst : Int) (sett : Addr) : List (Str × V) := [("me", .int me), ("state", .str stt), ("sits", .bl sits), ("count", .int cnt), ("stamp", stp), ("hand", .ref hnd), ("known", .ref knw), ("desk", .ref dsk), ("_sets", .ref sets), ("_first", .int fst), ("_set", .ref sett)]
theorem voF_me (me : Int) (stt : Str) (sits : Bool) (cnt : Int) (stp : V) (hnd : Addr) (knw : Addr) (dsk : Addr) (sets : Addr) (fst : Int) (sett : Addr) : (voF me stt sits cnt stp hnd knw dsk sets fst sett).lookup ("me" : Str) = some (.int me) := by unfold voF; rw [List.lookup_cons_self]
theorem voF_put_me (me : Int) (stt : Str) (sits : Bool) (cnt : Int) (stp : V) (hnd : Addr) (knw : Addr) (dsk : Addr) (sets : Addr) (fst : Int) (sett : Addr) (me' : Int) : putF "me" (.int me') (voF me stt sits cnt stp hnd knw dsk sets fst sett) = voF me' stt sits cnt stp hnd knw dsk sets fst sett := by
  simp only [voF, putF, if_false, if_true]
theorem voF_stt (me : Int) (stt : Str) (sits : Bool) (cnt : Int) (stp : V) (hnd : Addr) (knw : Addr) (dsk : Addr) (sets : Addr) (fst : Int) (sett : Addr) : (voF me stt sits cnt stp hnd knw dsk sets fst sett).lookup ("state" : Str) = some (.str stt) := by unfold voF; rw [List.lookup_cons, beq_false_of_ne (fun z => by rw [n_voF_stt_me] at z; exact z)]; simp only []; rw [List.lookup_cons_self]
theorem voF_put_stt (me : Int) (stt : Str) (sits : Bool) (cnt : Int) (stp : V) (hnd : Addr) (knw : Addr) (dsk : Addr) (sets : Addr) (fst : Int) (sett : Addr) (stt' : Str) : putF "state" (.str stt') (voF me stt sits cnt stp hnd knw dsk sets fst sett) = voF me stt' sits cnt stp hnd knw dsk sets fst sett := by
  simp only [voF, putF, n_voF_me_stt, if_false, if_true]
theorem voF_sits (me : Int) (stt : Str) (sits : Bool) (cnt : Int) (stp : V) (hnd : Addr) (knw : Addr) (dsk : Addr) (sets : Addr) (fst : Int) (sett : Addr) : (voF me stt sits cnt stp hnd knw dsk sets fst sett).lookup ("sits" : Str) = some (.bl sits) := by unfold voF; rw [List.lookup_cons, beq_false_of_ne (fun z => by rw [n_voF_sits_me] at z; exact z)]; simp only []; rw [List.lookup_cons, beq_false_of_ne (fun z => by rw [n_voF_sits_stt] at z; exact z)]; simp only []; rw [List.lookup_cons_self]
theorem voF_put_sits (me : Int) (stt : Str) (sits : Bool) (cnt : Int) (stp : V) (hnd : Addr) (knw : Addr) (dsk : Addr) (sets : Addr) (fst : Int) (sett : Addr) (sits' : Bool) : putF "sits" (.bl sits') (voF me stt sits cnt stp hnd knw dsk sets fst sett) = voF me stt sits' cnt stp hnd knw dsk sets fst sett := by
  simp only [voF, putF, n_voF_me_sits, n_voF_stt_sits, if_false, if_true]
theorem voF_cnt (me : Int) (stt : Str) (sits : Bool) (cnt : Int) (stp : V) (hnd : Addr) (knw : Addr) (dsk : Addr) (sets : Addr) (fst : Int) (sett : Addr) : (voF me stt sits cnt stp hnd knw dsk sets fst sett).lookup ("count" : Str) = some (.int cnt) := by unfold voF; rw [List.lookup_cons, beq_false_of_ne (fun z => by rw [n_voF_cnt_me] at z; exact z)]; simp only []; rw [List.lookup_cons, beq_false_of_ne (fun z => by rw [n_voF_cnt_stt] at z; exact z)]; simp only []; rw [List.lookup_cons, beq_false_of_ne (fun z => by rw [n_voF_cnt_sits] at z; exact z)]; simp only []; rw [List.lookup_cons_self]
theorem voF_put_cnt (me : Int) (stt : Str) (sits : Bool) (cnt : Int) (stp : V) (hnd : Addr) (knw : Addr) (dsk : Addr) (sets : Addr) (fst : Int) (sett : Addr) (cnt' : Int) : putF "count" (.int cnt') (voF me stt sits cnt stp hnd knw dsk sets fst sett) = voF me stt sits cnt' stp hnd knw dsk sets fst sett := by
  simp only [voF, putF, n_voF_me_cnt, n_voF_stt_cnt, n_voF_sits_cnt, if_false, if_true]
theorem voF_stp (me : Int) (stt : Str) (sits : Bool) (cnt : Int) (stp : V) (hnd : Addr) (knw : Addr) (dsk : Addr) (sets : Addr) (fst : Int) (sett : Addr) : (voF me stt sits cnt stp hnd knw dsk sets fst sett).lookup ("stamp" : Str) = some (stp) := by unfold voF; rw [List.lookup_cons, beq_false_of_ne (fun z => by rw [n_voF_stp_me] at z; exact z)]; simp only []; rw [List.lookup_cons, beq_false_of_ne (fun z => by rw [n_voF_stp_stt] at z; exact z)]; simp only []; rw [List.lookup_cons, beq_false_of_ne (fun z => by rw [n_voF_stp_sits] at z; exact z)]; simp only []; rw [List.lookup_cons, beq_false_of_ne (fun z => by rw [n_voF_stp_cnt] at z; exact z)]; simp only []; rw [List.lookup_cons_self]
theorem voF_put_stp (me : Int) (stt : Str) (sits : Bool) (cnt : Int) (stp : V) (hnd : Addr) (knw : Addr) (dsk : Addr) (sets : Addr) (fst : Int) (sett : Addr) (stp' : V) : putF "stamp" (stp') (voF me stt sits cnt stp hnd knw dsk sets fst sett) = voF me stt sits cnt stp' hnd knw dsk sets fst sett := by
  simp only [voF, putF, n_voF_me_stp, n_voF_stt_stp, n_voF_sits_stp, n_voF_cnt_stp, if_false, if_true]
theorem voF_hnd (me : Int) (stt : Str) (sits : Bool) (cnt : Int) (stp : V) (hnd : Addr) (knw : Addr) (dsk : Addr) (sets : Addr) (fst : Int) (sett : Addr) : (voF me stt sits cnt stp hnd knw dsk sets fst sett).lookup ("hand" : Str) = some (.ref hnd) := by unfold voF; rw [List.lookup_cons, beq_false_of_ne (fun z => by rw [n_voF_hnd_me] at z; exact z)]; simp only []; rw [List.lookup_cons, beq_false_of_ne (fun z => by rw [n_voF_hnd_stt] at z; exact z)]; simp only []; rw [List.lookup_cons, beq_false_of_ne (fun z => by rw [n_voF_hnd_sits] at z; exact z)]; simp only []; rw [List.lookup_cons, beq_false_of_ne (fun z => by rw [n_voF_hnd_cnt] at z; exact z)]; simp only []; rw [List.lookup_cons, beq_false_of_ne (fun z => by rw [n_voF_hnd_stp] at z; exact z)]; simp only []; rw [List.lookup_cons_self]
theorem voF_put_hnd (me : Int) (stt : Str) (sits : Bool) (cnt : Int) (stp : V) (hnd : Addr) (knw : Addr) (dsk : Addr) (sets : Addr) (fst : Int) (sett : Addr) (hnd' : Addr) : putF "hand" (.ref hnd') (voF me stt sits cnt stp hnd knw dsk sets fst sett) = voF me stt sits cnt stp hnd' knw dsk sets fst sett := by
  simp only [voF, putF, n_voF_me_hnd, n_voF_stt_hnd, n_voF_sits_hnd, n_voF_cnt_hnd, n_voF_stp_hnd, if_false, if_true]
theorem voF_knw (me : Int) (stt : Str) (sits : Bool) (cnt : Int) (stp : V) (hnd : Addr) (knw : Addr) (dsk : Addr) (sets : Addr) (fst : Int) (sett : Addr) : (voF me stt sits cnt stp hnd knw dsk sets fst sett).lookup ("known" : Str) = some (.ref knw) := by unfold voF; rw [List.lookup_cons, beq_false_of_ne (fun z => by rw [n_voF_knw_me] at z; exact z)]; simp only []; rw [List.lookup_cons, beq_false_of_ne (fun z => by rw [n_voF_knw_stt] at z; exact z)]; simp only []; rw [List.lookup_cons, beq_false_of_ne (fun z => by rw [n_voF_knw_sits] at z; exact z)]; simp only []; rw [List.lookup_cons, beq_false_of_ne (fun z => by rw [n_voF_knw_cnt] at z; exact z)]; simp only []; rw [List.lookup_cons, beq_false_of_ne (fun z => by rw [n_voF_knw_stp] at z; exact z)]; simp only []; rw [List.lookup_cons, beq_false_of_ne (fun z => by rw [n_voF_knw_hnd] at z; exact z)]; simp only []; rw [List.lookup_cons_self]
theorem voF_put_knw (me : Int) (stt : Str) (sits : Bool) (cnt : Int) (stp : V) (hnd : Addr) (knw : Addr) (dsk : Addr) (sets : Addr) (fst : Int) (sett : Addr) (knw' : Addr) : putF "known" (.ref knw') (voF me stt sits cnt stp hnd knw dsk sets fst sett) = voF me stt sits cnt stp hnd knw' dsk sets fst sett := by
  simp only [voF, putF, n_voF_me_knw, n_voF_stt_knw, n_voF_sits_knw, n_voF_cnt_knw, n_voF_stp_knw, n_voF_hnd_knw, if_false, if_true]
theorem voF_dsk (me : Int) (stt : Str) (sits : Bool) (cnt : Int) (stp : V) (hnd : Addr) (knw : Addr) (dsk : Addr) (sets : Addr) (fst : Int) (sett : Addr) : (voF me stt sits cnt stp hnd knw dsk sets fst sett).lookup ("desk" : Str) = some (.ref dsk) := by unfold voF; rw [List.lookup_cons, beq_false_of_ne (fun z => by rw [n_voF_dsk_me] at z; exact z)]; simp only []; rw [List.lookup_cons, beq_false_of_ne (fun z => by rw [n_voF_dsk_stt] at z; exact z)]; simp only []; rw [List.lookup_cons, beq_false_of_ne (fun z => by rw [n_voF_dsk_sits] at z; exact z)]; simp only []; rw [List.lookup_cons, beq_false_of_ne (fun z => by rw [n_voF_dsk_cnt] at z; exact z)]; simp only []; rw [List.lookup_cons, beq_false_of_ne (fun z => by rw [n_voF_dsk_stp] at z; exact z)]; simp only []; rw [List.lookup_cons, beq_false_of_ne (fun z => by rw [n_voF_dsk_hnd] at z; exact z)]; simp only []; rw [List.lookup_cons, beq_false_of_ne (fun z => by rw [n_voF_dsk_knw] at z; exact z)]; simp only []; rw [List.lookup_cons_self]
theorem voF_put_dsk (me : Int) (stt : Str) (sits : Bool) (cnt : Int) (stp : V) (hnd : Addr) (knw : Addr) (dsk : Addr) (sets : Addr) (fst : Int) (sett : Addr) (dsk' : Addr) : putF "desk" (.ref dsk') (voF me stt sits cnt stp hnd knw dsk sets fst sett) = voF me stt sits cnt stp hnd knw dsk' sets fst sett := by
  simp only [voF, putF, n_voF_me_dsk, n_voF_stt_dsk, n_voF_sits_dsk, n_voF_cnt_dsk, n_voF_stp_dsk, n_voF_hnd_dsk, n_voF_knw_dsk, if_false, if_true]
theorem voF_sets (me : Int) (stt : Str) (sits : Bool) (cnt : Int) (stp : V) (hnd : Addr) (knw : Addr) (dsk : Addr) (sets : Addr) (fst : Int) (sett : Addr) : (voF me stt sits cnt stp hnd knw dsk sets fst sett).lookup ("_sets" : Str) = some (.ref sets) := by unfold voF; rw [List.lookup_cons, beq_false_of_ne (fun z => by rw [n_voF_sets_me] at z; exact z)]; simp only []; rw [List.lookup_cons, beq_false_of_ne (fun z => by rw [n_voF_sets_stt] at z; exact z)]; simp only []; rw [List.lookup_cons, beq_false_of_ne (fun z => by rw [n_voF_sets_sits] at z; exact z)]; simp only []; rw [List.lookup_cons, beq_false_of_ne (fun z => by rw [n_voF_sets_cnt] at z; exact z)]; simp only []; rw [List.lookup_cons, beq_false_of_ne (fun z => by rw [n_voF_sets_stp] at z; exact z)]; simp only []; rw [List.lookup_cons, beq_false_of_ne (fun z => by rw [n_voF_sets_hnd] at z; exact z)]; simp only []; rw [List.lookup_cons, beq_false_of_ne (fun z => by rw [n_voF_sets_knw] at z; exact z)]; simp only []; rw [List.lookup_cons, beq_false_of_ne (fun z => by rw [n_voF_sets_dsk] at z; exact z)]; simp only []; rw [List.lookup_cons_self]
theorem voF_put_sets (me : Int) (stt : Str) (sits : Bool) (cnt : Int) (stp : V) (hnd : Addr) (knw : Addr) (dsk : Addr) (sets : Addr) (fst : Int) (sett : Addr) (sets' : Addr) : putF "_sets" (.ref sets') (voF me stt sits cnt stp hnd knw dsk sets fst sett) = voF me stt sits cnt stp hnd knw dsk sets' fst sett := by
  simp only [voF, putF, n_voF_me_sets, n_voF_stt_sets, n_voF_sits_sets, n_voF_cnt_sets, n_voF_stp_sets, n_voF_hnd_sets, n_voF_knw_sets, n_voF_dsk_sets, if_false, if_true]
theorem voF_fst (me : Int) (stt : Str) (sits : Bool) (cnt : Int) (stp : V) (hnd : Addr) (knw : Addr) (dsk : Addr) (sets : Addr) (fst : Int) (sett : Addr) : (voF me stt sits cnt stp hnd knw dsk sets fst sett).lookup ("_first" : Str) = some (.int fst) := by unfold voF; rw [List.lookup_cons, beq_false_of_ne (fun z => by rw [n_voF_fst_me] at z; exact z)]; simp only []; rw [List.lookup_cons, beq_false_of_ne (fun z => by rw [n_voF_fst_stt] at z; exact z)]; simp only []; rw [List.lookup_cons, beq_false_of_ne (fun z => by rw [n_voF_fst_sits] at z; exact z)]; simp only []; rw [List.lookup_cons, beq_false_of_ne (fun z => by rw [n_voF_fst_cnt] at z; exact z)]; simp only []; rw [List.lookup_cons, beq_false_of_ne (fun z => by rw [n_voF_fst_stp] at z; exact z)]; simp only []; rw [List.lookup_cons, beq_false_of_ne (fun z => by rw [n_voF_fst_hnd] at z; exact z)]; simp only []; rw [List.lookup_cons, beq_false_of_ne (fun z => by rw [n_voF_fst_knw] at z; exact z)]; simp only []; rw [List.lookup_cons, beq_false_of_ne (fun z => by rw [n_voF_fst_dsk] at z; exact z)]; simp only []; rw [List.lookup_cons, beq_false_of_ne (fun z => by rw [n_voF_fst_sets] at z; exact z)]; simp only []; rw [List.lookup_cons_self]
theorem voF_put_fst (me : Int) (stt : Str) (sits : Bool) (cnt : Int) (stp : V) (hnd : Addr) (knw : Addr) (dsk : Addr) (sets : Addr) (fst : Int) (sett : Addr) (fst' : Int) : putF "_first" (.int fst') (voF me stt sits cnt stp hnd knw dsk sets fst sett) = voF me stt sits cnt stp hnd knw dsk sets fst' sett := by
  simp only [voF, putF, n_voF_me_fst, n_voF_stt_fst, n_voF_sits_fst, n_voF_cnt_fst, n_voF_stp_fst, n_voF_hnd_fst, n_voF_knw_fst, n_voF_dsk_fst, n_voF_sets_fst, if_false, if_true]
theorem voF_sett (me : Int) (stt : Str) (sits : Bool) (cnt : Int) (stp : V) (hnd : Addr) (knw : Addr) (dsk : Addr) (sets : Addr) (fst : Int) (sett : Addr) : (voF me stt sits cnt stp hnd knw dsk sets fst sett).lookup ("_set" : Str) = some (.ref sett) := by unfold voF; rw [List.lookup_cons, beq_false_of_ne (fun z => by rw [n_voF_sett_me] at z; exact z)]; simp only []; rw [List.lookup_cons, beq_false_of_ne (fun z => by rw [n_voF_sett_stt] at z; exact z)]; simp only []; rw [List.lookup_cons, beq_false_of_ne (fun z => by rw [n_voF_sett_sits] at z; exact z)]; simp only []; rw [List.lookup_cons, beq_false_of_ne (fun z => by rw [n_voF_sett_cnt] at z; exact z)]; simp only []; rw [List.lookup_cons, beq_false_of_ne (fun z => by rw [n_voF_sett_stp] at z; exact z)]; simp only []; rw [List.lookup_cons, beq_false_of_ne (fun z => by rw [n_voF_sett_hnd] at z; exact z)]; simp only []; rw [List.lookup_cons, beq_false_of_ne (fun z => by rw [n_voF_sett_knw] at z; exact z)]; simp only []; rw [List.lookup_cons, beq_false_of_ne (fun z => by rw [n_voF_sett_dsk] at z; exact z)]; simp only []; rw [List.lookup_cons, beq_false_of_ne (fun z => by rw [n_voF_sett_sets] at z; exact z)]; simp only []; rw [List.lookup_cons, beq_false_of_ne (fun z => by rw [n_voF_sett_fst] at z; exact z)]; simp only []; rw [List.lookup_cons_self]
theorem voF_put_sett (me : Int) (stt : Str) (sits : Bool) (cnt : Int) (stp : V) (hnd : Addr) (knw : Addr) (dsk : Addr) (sets : Addr) (fst : Int) (sett : Addr) (sett' : Addr) : putF "_set" (.ref sett') (voF me stt sits cnt stp hnd knw dsk sets fst sett) = voF me stt sits cnt stp hnd knw dsk sets fst sett' := by
  simp only [voF, putF, n_voF_me_sett, n_voF_stt_sett, n_voF_sits_sett, n_voF_cnt_sett, n_voF_stp_sett, n_voF_hnd_sett, n_voF_knw_sett, n_voF_dsk_sett, n_voF_sets_sett, n_voF_fst_sett, if_false, if_true]
theorem voF_no (me : Int) (stt : Str) (sits : Bool) (cnt : Int) (stp : V) (hnd : Addr) (knw : Addr) (dsk : Addr) (sets : Addr) (fst : Int) (sett : Addr) {x : Str} (h0 : x ≠ ("me" : Str)) (h1 : x ≠ ("state" : Str)) (h2 : x ≠ ("sits" : Str)) (h3 : x ≠ ("count" : Str)) (h4 : x ≠ ("stamp" : Str)) (h5 : x ≠ ("hand" : Str)) (h6 : x ≠ ("known" : Str)) (h7 : x ≠ ("desk" : Str)) (h8 : x ≠ ("_sets" : Str)) (h9 : x ≠ ("_first" : Str)) (h10 : x ≠ ("_set" : Str)) : (voF me stt sits cnt stp hnd knw dsk sets fst sett).lookup x = none := by
  unfold voF
  rw [List.lookup_cons, beq_false_of_ne h0]; simp only []
  rw [List.lookup_cons, beq_false_of_ne h1]; simp only []
  rw [List.lookup_cons, beq_false_of_ne h2]; simp only []
  rw [List.lookup_cons, beq_false_of_ne h3]; simp only []
  rw [List.lookup_cons, beq_false_of_ne h4]; simp only []
  rw [List.lookup_cons, beq_false_of_ne h5]; simp only []
  rw [List.lookup_cons, beq_false_of_ne h6]; simp only []
  rw [List.lookup_cons, beq_false_of_ne h7]; simp only []
  rw [List.lookup_cons, beq_false_of_ne h8]; simp only []
  rw [List.lookup_cons, beq_false_of_ne h9]; simp only []
  rw [List.lookup_cons, beq_false_of_ne h10]; rfl
theorem voF_made (me : Int) (stt : Str) (sits : Bool) (cnt : Int) (stp : V) (hnd : Addr) (knw : Addr) (dsk : Addr) (sets : Addr) (fst : Int) (sett : Addr) : putF "_set" (.ref sett) (putF "_first" (.int fst) (putF "_sets" (.ref sets) (putF "desk" (.ref dsk) (putF "known" (.ref knw) (putF "hand" (.ref hnd) (putF "stamp" (stp) (putF "count" (.int cnt) (putF "sits" (.bl sits) (putF "state" (.str stt) (putF "me" (.int me) ([] )))))))))))= voF me stt sits cnt stp hnd knw dsk sets fst sett := by
  simp only [putF, voF, n_voF_me_stt, n_voF_me_sits, n_voF_stt_sits, n_voF_me_cnt, n_voF_stt_cnt, n_voF_sits_cnt, n_voF_me_stp, n_voF_stt_stp, n_voF_sits_stp, n_voF_cnt_stp, n_voF_me_hnd, n_voF_stt_hnd, n_voF_sits_hnd, n_voF_cnt_hnd, n_voF_stp_hnd, n_voF_me_knw, n_voF_stt_knw, n_voF_sits_knw, n_voF_cnt_knw, n_voF_stp_knw, n_voF_hnd_knw, n_voF_me_dsk, n_voF_stt_dsk, n_voF_sits_dsk, n_voF_cnt_dsk, n_voF_stp_dsk, n_voF_hnd_dsk, n_voF_knw_dsk, n_voF_me_sets, n_voF_stt_sets, n_voF_sits_sets, n_voF_cnt_sets, n_voF_stp_sets, n_voF_hnd_sets, n_voF_knw_sets, n_voF_dsk_sets, n_voF_me_fst, n_voF_stt_fst, n_voF_sits_fst, n_voF_cnt_fst, n_voF_stp_fst, n_voF_hnd_fst, n_voF_knw_fst, n_voF_dsk_fst, n_voF_sets_fst, n_voF_me_sett, n_voF_stt_sett, n_voF_sits_sett, n_voF_cnt_sett, n_voF_stp_sett, n_voF_hnd_sett, n_voF_knw_sett, n_voF_dsk_sett, n_voF_sets_sett, n_voF_fst_sett, if_false, if_true]
end G0
/-! A def with the cell __class__: its first statement says super().__init__(..). -/
namespace G0
open PySem PySem.Spec PyProof.Rows L2 NdefX
abbrev nfS (name qual : Str) (params : Arguments) (body : List Stmt) (scope : Scope) (cc cda : Addr) : NF := ⟨name, qual, params, body, scope, [("__class__", cc)], cda⟩
/-- a statement whose code must be told -/
def P1 (X : Cx) (body : List Stmt) (st : Stmt) (t : TS) : Prop :=
  ∀ (pins : List (Addr × Obj)) (s : Shared) (σ : L2.St) (H : Hp) (D : Ends), Inv X pins σ H s → t D σ H →
    _root_.PySem.wpAt (model X.prog X.w) X.A (.func body X.env) (exec st X.env) (SP X pins D) X.xe s
theorem fnS_of {CX : CXT} {P : Program} {w : World} {K : PySem.W.Frag} {mg : Str → Option Value} {base : Heap} {k : Nat}
    {f cc cda : Addr} {name qual : Str} {params : Arguments} {st : Stmt} {body : List Stmt} {scope : Scope} {dV kV doc pm ct oc cl : Value} {v : Option Value}
    {an od cld : Option Addr} {osl csl : Array (Option Value)} {N ps : List Str} {sp : Sp}
    (lk : K.lookup f = some ⟨oc, od, .func (PySem.W.ksFn name qual params (st :: body) scope dV kV doc pm an (.ref cda) ct cc), osl⟩)
    (coded : PySem.W.codeIn K (.ref cda) qual = true) (lc : K.lookup cc = some ⟨cl, cld, .cell v, csl⟩) (S : NScope N ps ["__class__"] scope)
    (len : ∀ zs G R W, sp zs G R W → zs.length = ps.length)
    (inner : ∀ (A : Around) (outer : List Env) (s : Shared) (H : Hp) (vs : List V) (Q : VK) (E : XK),
      Room k (A.deeper (envF (nfS name qual params (st :: body) scope cc cda) f s.heap.objs.size)) → sp vs H Q E →
      ∃ t1 t2, P1 (ncx CX P w K mg base N (nfS name qual params (st :: body) scope cc cda) f A outer s H E) (st :: body) st t1 ∧
        PSs (ncx CX P w K mg base N (nfS name qual params (st :: body) scope cc cda) f A outer s H E) body t2 ∧
        t1 { nx := fun σ' H' => t2 { nx := fun _ H' => Q .non H', rt := Q } σ' H', rt := Q } (startF N vs [none]) H) :
    FnOk P w K mg base CX (k + 1) f (PySem.W.ksFn name qual params (st :: body) scope dV kV doc pm an (.ref cda) ct cc) ps sp := by
  refine ⟨len, fun A outer s H given us vs Q E hr e0 bd r hsp => ?_⟩
  have hl := len _ _ _ _ hsp
  have KX : K.In s.heap := e0.mod.kin.keeps fun b o z => (e0.bs b o z).1
  have lim : s.heap.NoLimit := e0.mod.nolimit.keeps fun b o e => (e0.bs b o e).1
  have CA : CellsAt [("__class__", cc)] ["__class__"] [none] s.heap H := {
    len := rfl
    all := fun y c e => by
      have : c = cc := by
        simp only [List.lookup] at e
        split at e
        · exact (Option.some.inj e).symm
        · cases e
      subst this
      exact ⟨(e0.bs _ _ (e0.mod.kin _ _ lc)).2, v, ⟨_, KX _ _ lc, rfl⟩⟩
    inj := fun x y c h1 h2 => by
      have q : ∀ z c', List.lookup z [(("__class__" : Str), cc)] = some c' → z = "__class__" := fun z c' e => by
        simp only [List.lookup] at e
        split at e
        · rename_i h
          exact beq_iff_eq.mp h
        · cases e
      rw [q _ _ h1, q _ _ h2]
    has := fun i y e => by
      match i, e with
      | 0, e =>
        cases e
        exact ⟨cc, rfl, fun v h => by cases h⟩
      | i + 1, e => cases e }
  refine codeAny_call_function hr.depth (KX _ _ lk) rfl S.co S.gen rfl (PySem.W.codeRec_of KX coded) (bd _ _ _ _ ?_)
  refine wpAny_newFunctionEnv S.nocell (fun ⟨n, _⟩ hy => S.par n (List.of_mem_zip hy).1) (fun h₁ hns hsb => ⟨lim.fresh _ hsb, ?_⟩) S.kind
  show codeAny _ _ (.func (st :: body) (envF (nfS name qual params (st :: body) scope cc cda) f s.heap.objs.size)) _ _
  refine PySem.ks_codeAny_funcAt ?_
  have kp : ∀ b o, s.heap.get? b = some o → h₁.get? b = some o := fun b o e => hsb.extBut b o (Nat.ne_of_lt (Heap.lt_size e)) (Heap.get?_push_of_some _ e)
  obtain ⟨t1, t2, h1, h2, hq⟩ := inner A outer s H vs Q E (hr.deeper _) hsp
  have I : Inv (ncx CX P w K mg base N (nfS name qual params (st :: body) scope cc cda) f A outer s H E) [] (startF N vs [none]) H { s with heap := h₁, toks := s.toks + (ps.zip us).length } := inv_startN S hr.hd e0 hl r CA hns kp
  have fin : ∀ {σ' : L2.St} {H' : Hp} {v : V} {u : Value} {s' : Shared}, Inv (ncx CX P w K mg base N (nfS name qual params (st :: body) scope cc cda) f A outer s H E) [] σ' H' s' → L2.RelV v u → Q v H' → CE outer P w H s Q u s' :=
    fun {σ' H' v u s'} J rv q => ⟨v, H', J.os, J.bare, J.base, J.hok, rv, q⟩
  refine PySem.ks_wpAt_execs_cons (PySem.ks_wpAt_mono (h1 [] _ (startF N vs [none]) H _ I hq) (fun fl s' hs => ?_) fun e s' hs => hs)
  match fl, hs with
  | .ret u, ⟨v, σ', H', J, rv, q⟩ => exact fin J rv q
  | .brk, ⟨_, _, _, q⟩ => exact False.elim q
  | .cont, ⟨_, _, _, q⟩ => exact False.elim q
  | .next, ⟨σ', H', J, q⟩ =>
    refine _root_.PySem.wpAt_of_wpAny (wpAny_mono (h2.run [] _ σ' H' _ J q) (fun fl s' hs => ?_) fun e s' hs => hs)
    match fl, hs with
    | .ret u, ⟨v, σ', H', J, rv, q⟩ => exact fin J rv q
    | .next, ⟨σ', H', J, q⟩ => exact fin (v := V.non) (u := Value.none) J rfl q
    | .brk, ⟨_, _, _, q⟩ => exact False.elim q
    | .cont, ⟨_, _, _, q⟩ => exact False.elim q
end G0
namespace G0
open PySem PySem.Spec PyProof.Rows L2 NdefX
/-- what super() without arguments asks of the text and the written part -/
structure SupF (P : Program) (K : PySem.W.Frag) (N : List Str) (f cc cda D : Addr) (fd : FuncData) (params : Arguments) (scope : Scope) : Prop where
  fun_ : ∃ oc od osl, K.lookup f = some ⟨oc, od, .func fd, osl⟩ ∧ fd.params = params
  arg : ∃ ar : Arg, (params.posonlyargs ++ params.args).head? = some ar ∧ N[0]? = some ar.arg ∧ scope.names.lookup ar.arg = some .local
  code : ∃ ccl cdd vs ccs file tf, K.lookup cda = some ⟨ccl, cdd, .fields vs, ccs⟩ ∧ vs[2]? = some (.str file tf) ∧ ((P.main.file : Str) == file) = true
  cell : ∃ cl cld csl, K.lookup cc = some ⟨cl, cld, .cell (some (.ref D)), csl⟩
  cls : ∃ cdD, PySem.W.clsIn K D = some cdD
  miss : PySem.W.nsIn K mainGlobals "super" = some none
  sup : scope.names.lookup ("super" : Str) = some .globalImplicit
  own : scope.names.lookup ("__class__" : Str) = some .free
  kind : scope.kind = .function
  top : (P.main.scope.names.lookup ("super" : Str)).isSome = false
  any_ : PySem.W.nsIn K cStatics "thirdparty.any" = some none
/-- super() is made: an object of its own, held by a pin -/
theorem sup_node {CX : CXT} {P : Program} {w : World} {K : PySem.W.Frag} {mg : Str → Option Value} {base : Heap} {N : List Str}
    {f cc cda D a C : Addr} {name qual : Str} {params : Arguments} {st : List Stmt} {scope : Scope} {fd : FuncData}
    {A : Around} {outer : List Env} {s0 : Shared} {H0 : Hp} {E : XK} {pins : List (Addr × Obj)} {s : Shared} {σ : L2.St} {H : Hp} {p0 p1 : Pos} {attr : Str} {whole : Sem Value} {Q : Value → Shared → Prop} {EE : Value → Shared → Prop} {ox : Obj} {odx : Option Obj}
    (F : SupF P K N f cc cda D fd params scope)
    (I : Inv (ncx CX P w K mg base N (nfS name qual params st scope cc cda) f A outer s0 H0 E) pins σ H s) (hs : σ[0]? = some (some (.ref a)))
    (J : PySem.W.InstAt s.heap a ox C odx) (hsub : PySem.W.mroIn K C (.ref D) = some true) (hat : (attr == ("__class__" : Str)) = false)
    (h : ∀ h', (∀ b o, s.heap.get? b = some o → h'.get? b = some o) → h'.get? s.heap.objs.size = some (PySem.W.ks_superObj D a C) → Q (.ref s.heap.objs.size) { s with heap := h' }) :
    _root_.PySem.wpAt (model P w) (A.deeper (envF (nfS name qual params st scope cc cda) f s0.heap.objs.size)) (.func st (envF (nfS name qual params st scope cc cda) f s0.heap.objs.size))
      (attributeBase (.Call (.Name "super" p0) [] [] p1) attr (envF (nfS name qual params st scope cc cda) f s0.heap.objs.size) whole) Q EE s := by
  obtain ⟨oc, od, osl, hf, hpar⟩ := F.fun_
  obtain ⟨ar, hp, hN, hka⟩ := F.arg
  obtain ⟨ccl, cdd, vs, ccs, file, tf, hcode, hvs, hfile⟩ := F.code
  obtain ⟨cl, cld, csl, hcell⟩ := F.cell
  obtain ⟨cdD, hD⟩ := F.cls
  have X : K.In s.heap := I.kIn
  have M : Mod K mg base := I.mod
  obtain ⟨mb, hb, hboot⟩ := M.blt
  obtain ⟨m, hns, hlook⟩ := I.loc
  obtain ⟨u, ru, look⟩ := hlook 0 ar.arg (.ref a) hN hs (.inl hka)
  have ru : u = Value.ref a := ru
  subst ru
  have hv : m ar.arg = some (.ref a) := by
    rcases look with ⟨_, e⟩ | ⟨e, _⟩
    · exact e
    · exfalso
      have e : scope.names.lookup ar.arg = some .cell ∨ scope.names.lookup ar.arg = some .free := e
      rw [hka] at e
      rcases e with e | e <;> cases e
  have kb : ∀ b o, base.get? b = some o → s.heap.get? b = some o := I.bk
  obtain ⟨hh, g, d, t, os⟩ := s
  obtain ⟨oD, hD1, hD2⟩ : ∃ oD, hh.get? D = some oD ∧ oD.data = .cls cdD := by
    unfold PySem.W.clsIn at hD
    split at hD
    · rename_i c d cd' sl ho
      cases hD
      exact ⟨_, X _ _ ho, rfl⟩
    · cases hD
  subst hpar
  refine PySem.ks_wpAt_super_base F.sup F.own hat rfl (X _ _ hf) rfl hp rfl (X _ _ hcode) rfl hvs hfile F.top ?_
  refine PySem.W.ks_loadName_global F.kind F.sup (PySem.Calls.loadGlobal_builtin (M.glob.keeps kb) (PySem.W.mg_none_of M.kin M.glob F.miss) (hb.keeps kb) ((hboot _ (by decide +kernel)).trans (show bootBuiltins "super" = some (.type "super") by first | rfl | decide +kernel)) ⟨rfl, ?_⟩)
  refine wpAny_loadName_free F.kind F.own rfl ⟨_, X _ _ hcell, rfl⟩ ?_
  refine wpAny_loadName_local F.kind hka hns hv ?_
  refine PySem.ks_wpAny_isType_cls hD1 hD2 ⟨rfl, ?_⟩
  refine PySem.ks_wpAny_call_super hD1 hD2 J.at_ J.cls (fun c e => ?_) (PySem.W.looks_mroIn X hsub) (fun h' e k => h h' k e)
  have := J.no
  unfold PySem.W.notCls at this
  rw [e] at this
  exact Bool.noConfusion this
end G0
namespace G0
open PySem PySem.Spec PyProof.Rows L2 NdefX
section
variable {prog : Program} {w : World} {A : Around} {E : Value → Shared → Prop} {h : Heap} {g : Array GenState} {d : Drawn} {t : Nat} {os : OsState}
/-- a bound ValueError.__init__ is called: the exception's arguments are laid anew -/
theorem mw_code {nm q : Str} {C N : Addr} {bs bm : List Value} {hdct : Bool} {sn : List Str} {sub : List Value} {ab : Bool} {col : Option Bool} {dd : Option Addr} {k0 k1 k2 k3 k5 : Option Value} {u e t0 : Addr} {rest : List Value} {Q : Value → Shared → Prop}
    (hC : h.get? C = some (excClassObj nm q C N bs bm hdct sn sub ab col dd k0 k1 k2 k3 k5 "ValueError.__new__")) (he : h.get? e = some (PySem.HandSPX.excO C t0)) (hu : h.get? u = some (PySem.W.kxs_mw "ValueError.__init__" e)) (few : rest.length ≤ sizeLine)
    (k : ∀ h' t1, (∀ b o, b ≠ e → h.get? b = some o → h'.get? b = some o) → h'.get? e = some (PySem.HandSPX.excO C t1) → Q .none ⟨h', g, d, t, os⟩) :
    wpAny (model prog w) A (call (.ref u) rest) Q E ⟨h, g, d, t, os⟩ := by
  refine wpAny_call (codeAny_of_tree ?_)
  show wpAny _ A.in1 (callAny (.ref u) ⟨rest, []⟩) _ _ _
  simp only [callAny]
  refine wpAny_bind (wpAny_load hu ?_)
  simp only [PySem.W.kxs_mw, show (Value.type "method-wrapper" == Value.type "method" || Value.type "method-wrapper" == Value.type "builtin_function_or_method" || Value.type "method-wrapper" == Value.type "method-wrapper") = true by decide, if_true]
  refine PySem.W.KFB.if_so (by decide) ?_
  refine wpAny_bind (PySem.ESX.check_bound PySem.F.excBase_ValueError hC he rfl ?_)
  refine wpAny_bind (wpAny_pure (wpAny_pure ?_))
  refine ⟨Code.quiet_builtin _ (by decide +kernel), codeAny_builtin PySem.F.excBase_ValueError.initEntry ?_⟩
  rw [Around.under_plainId PySem.F.excBase_ValueError.init.plain _]
  wp_walk
  refine k _ h.objs.size (fun b o hb ho => ?_) ?_
  · rw [Heap.get?_update_other _ _ (Ne.symm hb)]
    exact Heap.get?_push_of_some _ ho
  · rw [Heap.get?_update_self _ (Heap.get?_push_of_some _ he) rfl]
    rfl
end
section
variable {X : Cx} {pins : List (Addr × Obj)} {σ : L2.St} {H : Hp} {s : Shared} {a C u : Addr} {us : List Value} {Q : Value → Shared → Prop} {E : Value → Shared → Prop} {A : Around}
theorem mw_ok (T : OexC X.K C) (I : Inv X pins σ H s) (e : H a = some (exo a C none)) (hu : s.heap.get? u = some (PySem.W.kxs_mw "ValueError.__init__" a)) (hl : us.length ≤ sizeLine) (k : ∀ s', Inv X pins σ H s' → Q .none s') :
    wpAny (model X.prog X.w) A (call (.ref u) us) Q E s := by
  obtain ⟨nm, q, N, bs, bm, sn, sub, ab, col, dd, k0, k1, k2, k3, k5, hC, hbm⟩ := T.cls
  obtain ⟨t1, ho⟩ := exo_at I.hok e
  obtain ⟨hp, g, d, t, os⟩ := s
  refine mw_code (I.kIn _ _ hC) ho hu hl fun h' t2 keep hx => ?_
  have J := I.write (t' := t) (x := a) (e := a) (o := exo a C none) (by rw [e]; exact True.intro) (.inl rfl) keep ⟨_, hx⟩ (exo_ok hx)
  have eu : upd H a (exo a C none) = H := by
    funext b
    by_cases hb : b = a
    · rw [hb, upd_same, e]
    · rw [upd_ne hb]
  rw [eu] at J
  exact k _ J
end
end G0
namespace G0
open PySem PySem.Spec PyProof.Rows L2 NdefX
/-- super().__init__(..) of an own exception -/
def tSupX (K : PySem.W.Frag) (D : Addr) (ta : TA) : TS := fun Dn σ H => ∃ a C : Addr, σ[0]? = some (some (.ref a)) ∧ OexC K C ∧ H a = some (exo a C none) ∧ PySem.W.mroIn K C (.ref D) = some true ∧
  PySem.W.ks_superIn K C D "__init__" = some (some (.builtin "ValueError.__init__")) ∧ PySem.W.subIn K (.ref C) (.type "ValueError") = some true ∧
  ta σ H fun vs H1 => vs.length ≤ 1000 ∧ H1 a = some (exo a C none) ∧ Dn.nx σ H1
theorem p1_supX {CX : CXT} {P : Program} {w : World} {K : PySem.W.Frag} {mg : Str → Option Value} {base : Heap} {N : List Str}
    {f cc cda D : Addr} {name qual : Str} {params : Arguments} {st : List Stmt} {scope : Scope} {fd : FuncData}
    {A : Around} {outer : List Env} {s0 : Shared} {H0 : Hp} {E : XK} {p0 p1 ap pos pos' : Pos} {e : Expr} {es : List Expr} {ta : TA} {pl : Sem Bool}
    (F : SupF P K N f cc cda D fd params scope) (ha : PA (ncx CX P w K mg base N (nfS name qual params st scope cc cda) f A outer s0 H0 E) (e :: es) ta)
    (he : starEach (e :: es) (envF (nfS name qual params st scope cc cda) f s0.heap.objs.size) = (false, eval e (envF (nfS name qual params st scope cc cda) f s0.heap.objs.size)) :: starEach es (envF (nfS name qual params st scope cc cda) f s0.heap.objs.size) := by rfl)
    (hpl : (backTo pos (starEach es (envF (nfS name qual params st scope cc cda) f s0.heap.objs.size))).any (·.1) = false := by rfl)
    (hsw : swapsWith (.Call (.Attribute (.Call (.Name "super" p0) [] [] p1) "__init__" ap) (e :: es) [] pos) none pos'.line (envF (nfS name qual params st scope cc cda) f s0.heap.objs.size) = pure false := by rfl)
    (hev : eval (.Call (.Attribute (.Call (.Name "super" p0) [] [] p1) "__init__" ap) (e :: es) [] pos) (envF (nfS name qual params st scope cc cda) f s0.heap.objs.size) = (do
      let ov ← attributeBase (.Call (.Name "super" p0) [] [] p1) "__init__" (envF (nfS name qual params st scope cc cda) f s0.heap.objs.size) (eval (.Call (.Name "super" p0) [] [] p1) (envF (nfS name qual params st scope cc cda) f s0.heap.objs.size))
      standAt ap.atName
      let (f', first) ← holding [ov] (getMethod ov "__init__" pl)
      callWith pos f' first (backTo pos (starEach (e :: es) (envF (nfS name qual params st scope cc cda) f s0.heap.objs.size))) []) := by rfl) :
    P1 (ncx CX P w K mg base N (nfS name qual params st scope cc cda) f A outer s0 H0 E) st (.Expr (.Call (.Attribute (.Call (.Name "super" p0) [] [] p1) "__init__" ap) (e :: es) [] pos) pos') (tSupX K D ta) := by
  rintro pins s σ H Dn I ⟨a, C, hs, T, ea, hm, hsu, hve, q⟩
  obtain ⟨t0, ho⟩ := exo_at I.hok ea
  have J : PySem.W.InstAt s.heap a _ C none := ⟨ho, rfl, rfl, trivial⟩
  have fresh := I.hok.fresh (Nat.le_refl s.heap.objs.size)
  refine PySem.ks_wpAt_Expr_any (PySem.ks_wpAt_MethodCall (sup_node F I hs J hm (by decide) fun h' k e1 => ?_) hev) I.quiet hsw
  obtain ⟨hh, g, d, t, os⟩ := s
  have I1 : Inv (ncx CX P w K mg base N (nfS name qual params st scope cc cda) f A outer s0 H0 E) pins σ H ⟨h', g, d, t, os⟩ := I.kept (t' := t) k
  have X1 : K.In h' := I1.kIn
  obtain ⟨t1, ho1⟩ := exo_at I1.hok ea
  have J1 : PySem.W.InstAt h' a _ C none := ⟨ho1, rfl, rfl, trivial⟩
  have hI : PySem.W.Looks (model P w) h' (isInstance (.ref a) (.type "ValueError")) true := J1.type.andThen (PySem.W.looks_subIn X1 hve)
  cases hc : PySem.W.clsIn K C with
  | none => unfold PySem.W.ks_superIn at hsu; rw [hc] at hsu; cases hsu
  | some cd =>
    unfold PySem.W.ks_superIn at hsu
    rw [hc] at hsu
    refine PySem.W.kxs_getMethod PySem.W.kxs_ValueError e1 (PySem.W.looks_opaque X1 F.any_) (l₀ := cd.mro) (fun A Q E s k q => wpAny_bind ((PySem.W.looks_clsIn X1 hc) A _ E s k (wpAny_pure q))) rfl X1 hsu hI (PySem.W.ks_ne X1 J1 hc) (by decide) ?_
    have k2 : ∀ b o, h'.get? b = some o → (h'.push (PySem.W.kxs_mw "ValueError.__init__" a)).get? b = some o := fun b o e => Heap.get?_push_of_some _ e
    have I2 : Inv (ncx CX P w K mg base N (nfS name qual params st scope cc cda) f A outer s0 H0 E) pins σ H ⟨h'.push (PySem.W.kxs_mw "ValueError.__init__" a), g, d, t + 1, os⟩ := I1.kept (t' := t + 1) k2
    have pin : ∀ p ∈ pins ++ [(h'.objs.size, PySem.W.kxs_mw "ValueError.__init__" a)], (h'.push (PySem.W.kxs_mw "ValueError.__init__" a)).get? p.1 = some p.2 ∧ H p.1 = none ∧
        p.1 ≠ (envF (nfS name qual params st scope cc cda) f s0.heap.objs.size).locals ∧ p.1 ∉ frs outer ∧ ∀ v, p.2.data ≠ .cell v := by
      intro p hp
      rcases List.mem_append.mp hp with hp | hp
      · exact I2.pin p (List.mem_append_right _ hp)
      · rw [List.mem_singleton.mp hp]
        exact ⟨Heap.get?_push_at rfl rfl, I1.hok.fresh (Nat.le_refl _), fun z => absurd (Nat.lt_of_le_of_lt (Nat.le_of_eq z) I1.lt) (Nat.lt_irrefl _), I1.nofs (Nat.le_refl _), fun v z => by cases z⟩
    have I3 := I2.pins_of pin
    refine PySem.W.kxs_callWith1 (h₀ := base) (L := (envF (nfS name qual params st scope cc cda) f s0.heap.objs.size).locals) (news := [(h'.objs.size, PySem.W.kxs_mw "ValueError.__init__" a)]) (i := "ValueError.__init__") (x := a) ?_ (List.mem_singleton.mpr rfl) ?_ he hpl
    · intro p hp
      have hp := List.mem_singleton.mp hp
      subst hp
      refine ⟨Heap.get?_push_at rfl rfl, fun z => absurd (Nat.lt_of_le_of_lt (Nat.le_of_eq z) I1.lt) (Nat.lt_irrefl _), ?_⟩
      cases z : base.get? h'.objs.size with
      | none => rfl
      | some o => exact absurd (Heap.lt_size (I1.bk _ _ z)) (Nat.lt_irrefl _)
    · refine wpAny_mono (ha.run pos _ _ σ H _ I3 q) (fun us s3 got => ?_) fun e s' h => h
      obtain ⟨vs, H3, I4, r, vl, ea3, qn⟩ := got
      have hu := (I4.pin (h'.objs.size, PySem.W.kxs_mw "ValueError.__init__" a) (List.mem_append_right _ (List.mem_append_right _ (List.mem_singleton.mpr rfl)))).1
      refine ⟨hu, mw_ok T I4 ea3 hu (by rw [← r.length, sizeLine_eq]; omega) fun s' I5 => ?_⟩
      exact ⟨σ, H3, I5.unpinned, qn⟩
end G0
namespace G0
open PySem PySem.Spec PyProof.Rows L2 NdefX
/-- __init__ of an own exception: super().__init__('..'), then self.f = y -/
def spXI (C : Addr) (fld : Str) : Sp := fun vs H Q _ => ∃ (a : Addr) (y : V), vs = [.ref a, y] ∧ H a = some (exo a C none) ∧ ∀ dx, H dx = none → dx ≠ a → Q .non (upd (upd H dx (exd dx [(fld, y)])) a (exo a C (some dx)))
/-- what an own exception class asks -/
structure XcK (K : PySem.W.Frag) (C : Addr) (fld : Str) : Prop where
  T : OexC K C
  mro : PySem.W.mroIn K C (.ref C) = some true
  sup : PySem.W.ks_superIn K C C "__init__" = some (some (.builtin "ValueError.__init__"))
  ve : PySem.W.subIn K (.ref C) (.type "ValueError") = some true
  no : PySem.W.findIn K (.ref C) fld = some none
theorem ok_xinit {CX : CXT} {P : Program} {w : World} {K : PySem.W.Frag} {mg : Str → Option Value} {base : Heap}
    {f cc cda C : Addr} {name qual y fld m : Str} {params : Arguments} {scope : Scope} {dV kV doc pm ct oc cl : Value} {v : Option Value}
    {an od cld : Option Addr} {osl csl : Array (Option Value)} {p0 p1 ap mp pos pos' q0 q1 q2 q3 : Pos} {j : Nat}
    (lk : K.lookup f = some ⟨oc, od, .func (PySem.W.ksFn name qual params [.Expr (.Call (.Attribute (.Call (.Name "super" p0) [] [] p1) "__init__" ap) [.Constant (.str m) j mp] [] pos) pos',
      .Assign [.Attribute (.Name "self" q0) fld q1] (.Name y q2) q3] scope dV kV doc pm an (.ref cda) ct cc), osl⟩)
    (coded : PySem.W.codeIn K (.ref cda) qual = true) (lc : K.lookup cc = some ⟨cl, cld, .cell v, csl⟩)
    (S : NScope ["self", y, "__class__"] ["self", y] ["__class__"] scope) (X : XcK K C fld) (hy1 : (y == ("__debug__" : Str)) = false) (hy2 : (y == ("__classdict__" : Str)) = false)
    (hev : ∀ env : Env, ∃ pl : Sem Bool, eval (.Call (.Attribute (.Call (.Name "super" p0) [] [] p1) "__init__" ap) [.Constant (.str m) j mp] [] pos) env = (do
      let ov ← attributeBase (.Call (.Name "super" p0) [] [] p1) "__init__" env (eval (.Call (.Name "super" p0) [] [] p1) env)
      standAt ap.atName
      let (f', first) ← holding [ov] (getMethod ov "__init__" pl)
      callWith pos f' first (backTo pos (starEach [.Constant (.str m) j mp] env)) []))
    (hsw : ∀ env : Env, swapsWith (.Call (.Attribute (.Call (.Name "super" p0) [] [] p1) "__init__" ap) [.Constant (.str m) j mp] [] pos) none pos'.line env = pure false) (hs2 : ∀ env : Env, swapsWith (.Name y q2) (some (.Attribute (.Name "self" q0) fld q1)) q3.line env = pure false)
    (F : SupF P K ["self", y, "__class__"] f cc cda C (PySem.W.ksFn name qual params [.Expr (.Call (.Attribute (.Call (.Name "super" p0) [] [] p1) "__init__" ap) [.Constant (.str m) j mp] [] pos) pos',
      .Assign [.Attribute (.Name "self" q0) fld q1] (.Name y q2) q3] scope dV kV doc pm an (.ref cda) ct cc) params scope) :
    FnOk P w K mg base CX (0 + 1) f (PySem.W.ksFn name qual params [.Expr (.Call (.Attribute (.Call (.Name "super" p0) [] [] p1) "__init__" ap) [.Constant (.str m) j mp] [] pos) pos',
      .Assign [.Attribute (.Name "self" q0) fld q1] (.Name y q2) q3] scope dV kV doc pm an (.ref cda) ct cc) ["self", y] (spXI C fld) := by
  refine fnS_of lk coded lc S ?_ fun A outer s H vs Q E hr h => ?_
  · rintro vs H Q E ⟨a, z, rfl, _⟩
    rfl
  · obtain ⟨a, z, rfl, ea, q⟩ := h
    obtain ⟨pl, hpl⟩ := hev (envF (nfS name qual params [.Expr (.Call (.Attribute (.Call (.Name "super" p0) [] [] p1) "__init__" ap) [.Constant (.str m) j mp] [] pos) pos', .Assign [.Attribute (.Name "self" q0) fld q1] (.Name y q2) q3] scope cc cda) f s.heap.objs.size)
    refine ⟨_, _, p1_supX F (pa_cons pe_str pa_nil) (hsw := hsw _) (hev := hpl), pss_one (ps_ost (pv 0 (by rfl) (.inl (S.par _ (by simp)))) (pv 1 (by rfl) (.inl (S.par _ (by simp))) hy1 hy2) (hs2 _)), ?_⟩
    refine ⟨a, C, rfl, X.T, ea, X.mro, X.sup, X.ve, by show 1 ≤ 1000; decide, ea, ?_⟩
    exact ⟨_, rfl, _, rfl, a, C, rfl, X.T, X.no, .inl ⟨ea, fun dx h1 h2 => q dx h1 h2⟩⟩
end G0
namespace G0
open PySem PySem.Spec PyProof.Rows L2 NdefX
/-- raise X(e) -/
theorem ps_raiseX {X : Cx} {W : WX} {x y fld : Str} {C fI : Addr} {fd : FuncData} {p pos pos' : Pos} {e : Expr} {te : TE} (T : OexC X.K C) (iC : PySem.W.findIn X.K (.ref C) "__init__" = some (some (.ref fI)))
    (tI : PySem.W.typeIn X.K (.ref fI) = some (.type "function")) (F1 : FnOk X.prog X.w X.K X.mg X.base CX0 1 fI fd ["self", y] (spXI C fld)) (hb : Binds X.K fd ["self", y] []) (hr : Room 2 X.A)
    (hg : Gl X x) (hm : X.mg x = some (.ref C)) (hc : X.calm = true) (tk : Takes X W) (ha : PE X e te) (hdb : (x == ("__debug__" : Str)) = false := by decide)
    (he : starEach [e] X.env = (false, eval e X.env) :: starEach [] X.env := by rfl) (hpl : (backTo pos (starEach [] X.env)).any (·.1) = false := by rfl) :
    PS X (.Raise (some (.Call (.Name x p) [e] [] pos)) none pos') (fun _ σ H => tMkO C (spXI C fld) [] (tCons te tNil) σ H fun cls d H' => W cls d σ H') :=
  ps_raise hc tk (pmk_oex T iC tI F1 hr hb .nil pass0 hg hm (pa_cons (hs := he) ha pa_nil) hdb he hpl)
theorem xc_done {C : Addr} {fld : Str} {y : V} {H1 : Hp} {R : XK} (h : ∀ d, H1 d = none → R (.ref C) (some d) (upd H1 d (.xd [(fld, y)]))) :
    [y].length ≤ 1000 ∧ ∀ a, H1 a = none → spXI C fld (.ref a :: ([y] ++ [])) (upd H1 a (exo a C none))
      (fun v H2 => v = .non ∧ ∃ (d : Addr) (fs : List (Str × V)), H2 a = some (exo a C (some d)) ∧ H2 d = some (exd d fs) ∧ H1 d = none ∧ R (.ref C) (some d) (upd (del H2 a) d (.xd fs))) (fun _ _ _ => False) := by
  refine ⟨by show 1 ≤ 1000; decide, fun a ha => ⟨a, y, rfl, upd_same, fun dx h1 h2 => ?_⟩⟩
  have hd : H1 dx = none := by rw [upd_ne h2] at h1; exact h1
  refine ⟨rfl, dx, [(fld, y)], upd_same, by rw [upd_ne h2, upd_same], hd, ?_⟩
  have e : upd (del (upd (upd (upd H1 a (exo a C none)) dx (exd dx [(fld, y)])) a (exo a C (some dx))) a) dx (.xd [(fld, y)]) = upd H1 dx (.xd [(fld, y)]) := by
    funext b
    by_cases c : b = dx
    · subst c; rw [upd_same, upd_same]
    · rw [upd_ne c, upd_ne c]
      by_cases c2 : b = a
      · subst c2; rw [del_same, ha]
      · rw [del_ne c2, upd_ne c2, upd_ne c, upd_ne c2]
  rw [e]
  exact h dx hd
end G0
namespace G0
open PySem PySem.Spec PyProof.Rows L2 NdefX ClX
/-- super().__init__(..) of an instance of an own class, D's base giving a def -/
def tSupM (K : PySem.W.Frag) (D f2 : Addr) (sp : Sp) (ta : TA) : TS := fun Dn σ H => ∃ (a C dx : Addr) (fs : List (Str × V)), σ[0]? = some (some (.ref a)) ∧ H a = some (.ins C dx fs) ∧ PySem.W.mroIn K C (.ref D) = some true ∧
  PySem.W.ks_superIn K C D "__init__" = some (some (.ref f2)) ∧ PySem.W.typeIn K (.ref f2) = some (.type "function") ∧ PySem.W.fnIn K f2 = true ∧
  ta σ H fun vs H1 => sp (.ref a :: vs) H1 (fun _ H2 => Dn.nx σ H2) (fun _ _ _ => False)
theorem p1_supM {CX : CXT} {P : Program} {w : World} {K : PySem.W.Frag} {mg : Str → Option Value} {base : Heap} {N : List Str} {k2 : Nat} {sp : Sp}
    {f cc cda D f2 : Addr} {name qual : Str} {params : Arguments} {st : List Stmt} {scope : Scope} {fd : FuncData}
    {A : Around} {outer : List Env} {s0 : Shared} {H0 : Hp} {E : XK} {p0 p1 ap pos pos' : Pos} {e : Expr} {es : List Expr} {ta : TA} {pl : Sem Bool}
    (F : SupF P K N f cc cda D fd params scope) (F2 : FnR P w K mg base CX0 k2 f2 sp) (hr : Room k2 (A.deeper (envF (nfS name qual params st scope cc cda) f s0.heap.objs.size)))
    (ha : PA (ncx CX P w K mg base N (nfS name qual params st scope cc cda) f A outer s0 H0 E) (e :: es) ta)
    (he : starEach (e :: es) (envF (nfS name qual params st scope cc cda) f s0.heap.objs.size) = (false, eval e (envF (nfS name qual params st scope cc cda) f s0.heap.objs.size)) :: starEach es (envF (nfS name qual params st scope cc cda) f s0.heap.objs.size) := by rfl)
    (hpl : (backTo pos (starEach es (envF (nfS name qual params st scope cc cda) f s0.heap.objs.size))).any (·.1) = false := by rfl)
    (hsw : swapsWith (.Call (.Attribute (.Call (.Name "super" p0) [] [] p1) "__init__" ap) (e :: es) [] pos) none pos'.line (envF (nfS name qual params st scope cc cda) f s0.heap.objs.size) = pure false := by rfl)
    (hev : eval (.Call (.Attribute (.Call (.Name "super" p0) [] [] p1) "__init__" ap) (e :: es) [] pos) (envF (nfS name qual params st scope cc cda) f s0.heap.objs.size) = (do
      let ov ← attributeBase (.Call (.Name "super" p0) [] [] p1) "__init__" (envF (nfS name qual params st scope cc cda) f s0.heap.objs.size) (eval (.Call (.Name "super" p0) [] [] p1) (envF (nfS name qual params st scope cc cda) f s0.heap.objs.size))
      standAt ap.atName
      let (f', first) ← holding [ov] (getMethod ov "__init__" pl)
      callWith pos f' first (backTo pos (starEach (e :: es) (envF (nfS name qual params st scope cc cda) f s0.heap.objs.size))) []) := by rfl) :
    P1 (ncx CX P w K mg base N (nfS name qual params st scope cc cda) f A outer s0 H0 E) st (.Expr (.Call (.Attribute (.Call (.Name "super" p0) [] [] p1) "__init__" ap) (e :: es) [] pos) pos') (tSupM K D f2 sp ta) := by
  rintro pins s σ H Dn I ⟨a, C, dx, fs, hs, ea, hm, hsu, hty, hfn, q⟩
  obtain ⟨mA, OM, _⟩ := ins_get I.hok ea
  obtain ⟨od, J, _⟩ := OM.look
  refine PySem.ks_wpAt_Expr_any (PySem.ks_wpAt_MethodCall (sup_node F I hs J hm (by decide) fun h' k e1 => ?_) hev) I.quiet hsw
  obtain ⟨hh, g, d, t, os⟩ := s
  have I1 : Inv (ncx CX P w K mg base N (nfS name qual params st scope cc cda) f A outer s0 H0 E) pins σ H ⟨h', g, d, t, os⟩ := I.kept (t' := t) k
  have X1 : K.In h' := I1.kIn
  obtain ⟨mA1, OM1, _⟩ := ins_get I1.hok ea
  obtain ⟨od1, J1, _⟩ := OM1.look
  cases hc : PySem.W.clsIn K C with
  | none => unfold PySem.W.ks_superIn at hsu; rw [hc] at hsu; cases hsu
  | some cd =>
    unfold PySem.W.ks_superIn at hsu
    rw [hc] at hsu
    obtain ⟨of, hof, hofc⟩ : ∃ of, h'.get? f2 = some of ∧ of.cls = .type "function" := by
      have ht' : (K.lookup f2).map (·.cls) = some (.type "function") := hty
      cases z : K.lookup f2 with
      | none => rw [z] at ht'; cases ht'
      | some of => rw [z] at ht'; exact ⟨of, X1 _ _ z, Option.some.inj ht'⟩
    refine PySem.ks_wpAny_getMethod_super e1 (PySem.W.looks_opaque X1 F.any_) (l₀ := cd.mro) (fun A Q E s k q => wpAny_bind ((PySem.W.looks_clsIn X1 hc) A _ E s k (wpAny_pure q))) rfl X1 hsu hof hofc (PySem.W.ks_ne X1 J1 hc) (by decide) ?_
    have I3 := met_new (g := f2) (C := a) I1
    refine callwith_cm (C := a) (g := f2) I3 ?_ hfn ?_ he hpl
    · cases z : base.get? h'.objs.size with
      | none => exact z
      | some o => exact absurd (Heap.lt_size (I1.bk _ _ z)) (Nat.lt_irrefl _)
    · refine wpAny_mono (ha.run pos _ _ σ H _ I3 q) (fun us s3 got => ?_) fun e s' h => h
      obtain ⟨vs, H3, I4, r, qn⟩ := got
      refine ⟨⟨pin_at I4, I4.kIn⟩, ?_⟩
      refine wpAny_mono (run_cm F2 hr pass0 I4 r qn) (fun u s' z => ?_) fun e s' h => h
      obtain ⟨v, H', I5, _, qq⟩ := z
      exact ⟨σ, H', I5, qq⟩
end G0
/-! In defs called while an exception is handled: the exception is a pin of the context. -/
namespace G0
open PySem PySem.Spec PyProof.Rows L2
structure XhC (K : PySem.W.Frag) (D : Addr) : Prop where
  cl : (PySem.W.clsIn K D).isSome = true
  c : ExcC K D
/-- isinstance(e, c), e the handled exception at p -/
def rIsX (K : PySem.W.Frag) (D dd : Addr) (p : Addr) : List V → Hp → VK → Prop := fun xs H Q => ∃ (c : V) (cv : Value) (b : Bool), xs = [.ref p, c] ∧ (∀ u, RelV c u → u = cv) ∧ PySem.W.kitOne K (.ref D) cv = some b ∧ (∃ fs, H dd = some (.xd fs)) ∧ Q (.bl b) H
theorem call_isX {X : Cx} {p : Addr × Obj} {D dd : Addr} (hp : p ∈ X.pn) (C : XhC X.K D) (hc : p.2.cls = .ref D) (hd : p.2.dict = some dd) (hf : ∃ vs, p.2.data = .fields vs) : CallR X (.builtin "isinstance") (rIsX X.K D dd p.1) := by
  intro pins s σ H xs us Q I r h
  obtain ⟨c, cv, b, rfl, hcv, e, ⟨fs, ed⟩, q⟩ := h
  cases r with
  | cons rx rr =>
    cases rr with
    | cons rt rr =>
      cases rr
      cases rx
      have ec := hcv _ rt
      subst ec
      obtain ⟨hget, _⟩ := I.pin p (List.mem_append_left _ hp)
      obtain ⟨vs, hv⟩ := hf
      have hx : ObjOk X.prog X.w H s.heap dd (.xd fs) := I.hok dd _ ed
      obtain ⟨mA, hns, hr⟩ := hx
      obtain ⟨od, ho, hl⟩ := lookIn_ns hns
      have J : PySem.W.InstAt s.heap p.1 p.2 D (some od) := ⟨hget, hc, by unfold PySem.W.notCls; rw [hv] <;> rfl, by rw [hd]; exact ho⟩
      exact PySem.W.kia_one (PySem.W.kitx_exc C.cl C.c.hg C.c.hk C.c.hs C.c.ha C.c.hn C.c.ht C.c.hm) I.kIn J e (fun z => nomatch z) fun tk => ⟨.bl b, H, I.kept (t' := tk) fun _ _ z => z, rfl, q⟩
/-- e.f, e the handled exception at p -/
def tXp (p dd : Addr) (f : Str) (te : TE) : TE := fun σ H Q => te σ H fun x H1 => x = .ref p ∧ ∃ (fs : List (Str × V)) (v : V), H1 dd = some (.xd fs) ∧ fs.lookup f = some v ∧ Q v H1
theorem pe_xp {X : Cx} {p : Addr × Obj} {C dd : Addr} {e : Expr} {te : TE} {pos : Pos} {n : Str} (hp : p ∈ X.pn) (T : XfC X.K C) (hno : PySem.W.findIn X.K (.ref C) n = some none) (hc : p.2.cls = .ref C) (hd : p.2.dict = some dd) (hf : ∃ vs, p.2.data = .fields vs)
    (he : PE X e te) (hb : attributeBase e n X.env (eval e X.env) = eval e X.env := by rfl) : PE X (.Attribute e n pos) (tXp p.1 dd n te) := by
  refine ⟨fun pins s σ H Q I h => ?_⟩
  refine attr_of hb (thn (he.run pins s σ H _ I h) fun u s1 hh => ?_)
  obtain ⟨x, H1, I1, rx, ex, fs, v, ea, l, q⟩ := hh
  subst ex
  obtain rfl : u = Value.ref p.1 := rx
  obtain ⟨ha, _⟩ := I1.pin p (List.mem_append_left _ hp)
  obtain ⟨vs, hv⟩ := hf
  have hx : ObjOk X.prog X.w H1 s1.heap dd (.xd fs) := I1.hok dd _ ea
  obtain ⟨mA, hns, hr⟩ := hx
  obtain ⟨od, ho, hl⟩ := lookIn_ns hns
  obtain ⟨u, hu, ru⟩ := RelO.some_of (v := v) (o := mA n) (by rw [← l]; exact hr n)
  have J : PySem.W.InstAt s1.heap p.1 p.2 C (some od) := ⟨ha, hc, by unfold PySem.W.notCls; rw [hv] <;> rfl, by rw [hd]; exact ho⟩
  exact HandSPX.exc_get I1.kIn J T.ga T.gg T.exC (PySem.W.findObj_own T.hdC hno rfl (by rw [hl, hu])) (handed_of ru) ⟨v, H1, I1.tok _, ru, q⟩
end G0
namespace G0
open PySem PySem.Spec PyProof.Rows L2 L2H
/-- a def's promise while an exception is handled and nothing is under repr -/
structure FnHG (P : Program) (w : World) (K : PySem.W.Frag) (mg : Str → Option Value) (base : Heap) (CX : CXT) (k : Nat) (f : Addr) (fd : FuncData) (ps : List Str) (sp : Addr × Obj → Sp) : Prop where
  len : ∀ p vs H Q E, sp p vs H Q E → vs.length = ps.length
  run : ∀ (A : Around) (outer : List Env) (s : Shared) (H : Hp) (args : Args) (us : List Value) (vs : List V) (Q : VK) (E : XK) (p : Addr × Obj), A.guards = some [] → RoomH k A → Hot1 A p → PinOk outer H s p →
    Env0 P w K mg base A outer s H → BindsTo s fd args (ps.zip us) → Vals vs us → sp p vs H Q E → codeAny (model P w) A (.call (.ref f) args) (CR CX outer P w H s Q E) s
theorem fnHG_of {CX : CXT} {P : Program} {w : World} {K : PySem.W.Frag} {mg : Str → Option Value} {base : Heap} {k : Nat} {f : Addr} {name qual : Str} {params : Arguments} {body : List Stmt} {scope : Scope}
    {dV kV doc pm cdv ct oc : Value} {an od : Option Addr} {osl : Array (Option Value)} {N ps : List Str} {sp : Addr × Obj → Sp}
    (lk : K.lookup f = some ⟨oc, od, .func (PySem.W.fnOf name qual params body scope dV kV doc pm an cdv ct), osl⟩) (coded : PySem.W.codeIn K cdv qual = true) (S : FnScope N ps scope)
    (len : ∀ p vs H Q E, sp p vs H Q E → vs.length = ps.length)
    (inner : ∀ (A : Around) (outer : List Env) (s : Shared) (H : Hp) (vs : List V) (Q : VK) (E : XK) (p : Addr × Obj), A.guards = some [] → Hot1 A p → RoomH k (A.deeper (envOfC qual scope s.heap.objs.size f cdv)) → sp p vs H Q E →
      ∃ t, PSs (cxH CX P w K mg base N qual scope f cdv A outer s H E p) body t ∧ t { nx := fun _ H' => Q .non H', rt := Q } (L2.start N vs) H) :
    FnHG P w K mg base CX (k + 1) f (PySem.W.fnOf name qual params body scope dV kV doc pm an cdv ct) ps sp := by
  refine ⟨len, fun A outer s H args us vs Q E p free hr hot hpin e0 hb r hsp => ?_⟩
  have many := len _ _ _ _ _ hsp
  have KX : K.In s.heap := e0.mod.kin.keeps fun b o z => (e0.bs b o z).1
  have lim : s.heap.NoLimit := e0.mod.nolimit.keeps fun b o z => (e0.bs b o z).1
  have kinds : ∀ y ∈ ps.zip us, scope.names.lookup y.1 = some .local ∨
      (scope.names.lookup y.1 = some .cell ∧ ((cellsFrom (s.heap.objs.size + 1) scope.names []).lookup y.1).isSome = true) := by
    intro y hy
    cases S.par y.1 (List.of_mem_zip hy).1 with
    | inl q => exact .inl q
    | inr q => exact .inr ⟨q, PySem.W.cellsFrom_some _ _ _ (.inl q)⟩
  refine codeAny_call_function hr.depth (KX _ _ lk) rfl S.co S.gen rfl (PySem.W.codeRec_of KX coded) (hb _ _ _ _ ?_)
  refine wpAny_newFunctionEnv_cells S.kind kinds fun env same t1 made => ?_
  subst same
  refine ⟨lim.keeps made.toInCall.keep, codeAny_func ?_⟩
  obtain ⟨tb, derived, holds⟩ := inner A outer s H vs Q E p free hot (hr.deeper _) hsp
  have J : Inv (cxH CX P w K mg base N qual scope f cdv A outer s H E p) [] (L2.start N vs) H t1 := inv_startH S hpin e0 many r made
  refine wpAny_mono (derived.run [] t1 (L2.start N vs) H _ J holds) (fun fl t' told => ?_) fun e t' told => told
  match fl, told with
  | .ret u, ⟨v, σ', G', J', rv, q⟩ => exact ⟨v, G', J'.os, J'.bare, J'.base, J'.hok, rv, q⟩
  | .next, ⟨σ', G', J', q⟩ => exact ⟨V.non, G', J'.os, J'.bare, J'.base, J'.hok, (rfl : Value.none = Value.none), q⟩
  | .brk, ⟨_, _, _, q⟩ => exact q.elim
  | .cont, ⟨_, _, _, q⟩ => exact q.elim
section
variable {X : Cx} {CX : CXT} {k : Nat} {f : Addr} {fd : FuncData} {ps : List Str} {sp : Addr × Obj → Sp} {E : L2.St → XK} {x : Str} {q pos : Pos} {e : Expr} {es : List Expr} {t : TA} {p : Addr × Obj}
theorem run_fnHG {pins : List (Addr × Obj)} {σ : L2.St} {H : Hp} {s : Shared} {Q : VK} {us : List Value} {vs : List V} (F : FnHG X.prog X.w X.K X.mg X.base CX k f fd ps sp) (free : X.A.guards = some []) (hr : RoomH k X.A) (hot : Hot1 X.A p) (hp : p ∈ X.pn)
    (hb : Binds X.K fd ps []) (hx : PassesAt CX X σ (E σ)) (I : Inv X pins σ H s) (r : Vals vs us) (h : sp p vs H Q (E σ)) : wpAny (model X.prog X.w) X.A (call (.ref f) us) (EP X pins σ Q) X.xe s := by
  have many : us.length = ps.length := by rw [← r.length]; exact F.len _ _ _ _ _ h
  have b := hb s us I.kIn (by rw [List.append_nil]; exact many)
  rw [List.append_nil] at b
  have at_ := I.pin p (List.mem_append_left _ hp)
  have pin : PinOk X.stack H s p := ⟨at_.1, at_.2.1, fun hm => (List.mem_cons.mp (I.stkSub p.1 hm)).elim at_.2.2.1 at_.2.2.2.1, at_.2.2.2.2⟩
  refine wpAny_call (codeAny_mono (F.run X.A X.stack s H ⟨us, []⟩ us vs Q (E σ) p free hr hot pin I.env0 b r h) fun out s' told => ?_)
  match out, told with
  | .error e, told => exact hx pins H s e s' I told
  | .ok (.ret u), told => exact I.after told
  | .ok .next, told => exact told.elim
  | .ok .brk, told => exact told.elim
  | .ok .cont, told => exact told.elim
theorem pe_callHG (F : FnHG X.prog X.w X.K X.mg X.base CX k f fd ps sp) (free : X.A.guards = some []) (hr : RoomH k X.A) (hot : Hot1 X.A p) (hp : p ∈ X.pn) (hg : Gl X x) (hm : X.mg x = some (.ref f)) (hk : PySem.W.keepIn X.K (.ref f) = true) (hb : Binds X.K fd ps [])
    (hx : ∀ σ, PassesAt CX X σ (E σ)) (ha : PA X (e :: es) t) (hdb : (x == ("__debug__" : Str)) = false := by decide) (he : starEach (e :: es) X.env = (false, eval e X.env) :: starEach es X.env := by rfl) (hpl : (backTo pos (starEach es X.env)).any (·.1) = false := by rfl) :
    PE X (.Call (.Name x q) (e :: es) [] pos) (tCallS (sp p) E t) :=
  ⟨fun pins s σ H Q I h => wpAny_Call_Name_kw (ld_glob I hg hm
    (PySem.W.callWith_K (h₀ := X.base) I.ok.mod.kin hk (thn (ha.run pos pins s σ H _ I h) fun us s1 ⟨vs, H1, I1, r, q1⟩ => ⟨I1.kIn, run_fnHG F free hr hot hp hb (hx σ) I1 r q1⟩) he hpl) hdb)⟩
end
end G0
namespace G0
open PySem PySem.Spec PyProof.Rows L2 NdefX ClX
section
variable {P : Program} {w : World} {K : PySem.W.Frag} {mg : Str → Option Value} {base : Heap}
/-! ### defs that may raise -/
def CalX (P : Program) (w : World) (K : PySem.W.Frag) (mg : Str → Option Value) (base : Heap) (x : Str) (k : Nat) (ps : List Str) (sp : Sp) : Prop :=
  ∃ f fd, FnOk P w K mg base (L2.CX P w) k f fd ps sp ∧ Binds K fd ps [] ∧ mg x = some (.ref f) ∧ PySem.W.keepIn K (.ref f) = true
theorem calx_of {x : Str} {st : Stmt} {N ps : List Str} {k : Nat} {sp : Sp} (F : Fn K mg x st) (S : FnScope N ps (defScope st))
    (bd : ∀ (kV doc pm : Value) (an : Option Addr) (cdv ct : Value) (us : List Value), us.length = ps.length →
      bindArgs (PySem.W.fnOf x x (defArgs st) (defBody st) (defScope st) .none kV doc pm an cdv ct) ⟨us, []⟩ = pure (ps.zip us))
    (len : ∀ vs H Q E, sp vs H Q E → vs.length = ps.length)
    (inner : ∀ (f : Addr) (cdv : Value) (A : Around) (outer : List Env) (s : Shared) (H : Hp) (vs : List V) (Q : VK) (E : XK),
      Room k (A.deeper (envOfC x (defScope st) s.heap.objs.size f cdv)) → sp vs H Q E →
      ∃ t, PSs (cxOf (L2.CX P w) P w K mg base N x (defScope st) f cdv A outer s H E) (defBody st) t ∧ t { nx := fun _ H' => Q .non H', rt := Q } (L2.start N vs) H) :
    CalX P w K mg base x (k + 1) ps sp := by
  obtain ⟨f, fd, F, m⟩ := F
  exact ⟨f, fd, F.okX S len fun cdv A outer s H vs Q E hr h => inner f cdv A outer s H vs Q E hr h, F.binds bd, m, F.kp⟩
end
section
variable {X : Cx} {k : Nat} {ps : List Str} {sp : Sp} {x : Str} {p pos : Pos} {e : Expr} {es : List Expr} {t : TA} {W : WX}
theorem pe_calX (C : CalX X.prog X.w X.K X.mg X.base x k ps sp) (hr : Room k X.A) (tk : Takes X W) (ha : PA X (e :: es) t) (hg : Gl X x := by rfl) (n1 : (x == ("__debug__" : Str)) = false := by decide)
    (n2 : starEach (e :: es) X.env = (false, eval e X.env) :: starEach es X.env := by rfl) (n3 : (backTo pos (starEach es X.env)).any (·.1) = false := by rfl) :
    PE X (.Call (.Name x p) (e :: es) [] pos) (tCallS sp (WE W) t) := by
  obtain ⟨f, fd, F, b, m, kp⟩ := C
  exact pe_callS F hr hg m kp b (fun σ => passAt tk σ) ha n1 n2 n3
/-- isinstance(e, c) of the exception that a suite holds, with its dict -/
def rIsS (K : PySem.W.Frag) (cls : Value) (d : Option Addr) (a : Addr) : List V → Hp → VK → Prop := fun xs H Q => ∃ (D dd : Addr) (c : V) (cv : Value) (b : Bool), cls = .ref D ∧ d = some dd ∧ XhC K D ∧ xs = [.ref a, c] ∧ (∀ u, RelV c u → u = cv) ∧
  PySem.W.kitOne K (.ref D) cv = some b ∧ (∃ fs, H dd = some (.xd fs)) ∧ Q (.bl b) H
theorem call_isS {X : Cx} {a : Addr} {oe : Obj} {cls : Value} {d : Option Addr} {pn : List (Addr × Obj)} (hz : Zc cls d oe) (hf : ∃ vs, oe.data = .fields vs) : CallR (X.suite a ((a, oe) :: pn)) (.builtin "isinstance") (rIsS X.K cls d a) := by
  intro pins s σ H xs us Q I r h
  obtain ⟨D, dd, c, cv, b, rfl, rfl, hX, rfl, hcv, e, hd, q⟩ := h
  exact call_isX (X := X.suite a ((a, oe) :: pn)) (p := (a, oe)) (D := D) (dd := dd) (List.mem_cons_self ..) hX hz.1 hz.2 hf pins s σ H _ us Q I r ⟨c, cv, b, rfl, hcv, e, hd, q⟩
end

/-- of a tuple of classes -/
def rIsST (K : PySem.W.Frag) (cls : Value) (d : Option Addr) (a : Addr) : List V → Hp → VK → Prop := fun xs H Q => ∃ (D dd tp : Addr) (cs : List V) (us : List Value) (b : Bool), cls = .ref D ∧ d = some dd ∧ XhC K D ∧ xs = [.ref a, .ref tp] ∧ H tp = some (.tup cs) ∧ Paired ClsV cs us ∧
  PySem.W.kitAny K (.ref D) us = some b ∧ (∃ fs, H dd = some (.xd fs)) ∧ Q (.bl b) H
theorem call_isST {X : Cx} {a : Addr} {oe : Obj} {cls : Value} {d : Option Addr} {pn : List (Addr × Obj)} (hz : Zc cls d oe) (hf : ∃ vs, oe.data = .fields vs) : CallR (X.suite a ((a, oe) :: pn)) (.builtin "isinstance") (rIsST X.K cls d a) := by
  intro pins s σ H xs us Q I r h
  obtain ⟨D, dd, tp, cs, ws, b, rfl, rfl, C, rfl, hT, k, e, ⟨fs, ed⟩, q⟩ := h
  obtain ⟨u1, u2, rfl, r1, r2⟩ := vals2 r
  cases (show u1 = Value.ref a from r1)
  cases (show u2 = Value.ref tp from r2)
  obtain ⟨_, its, rv, o, h1, h2, n, h3⟩ := (show ObjOk X.prog X.w H s.heap tp (.tup cs) from I.hok tp _ hT)
  have e3 := ClsV.all k rv
  subst e3
  obtain ⟨oc, od', dt, sl⟩ := o
  simp only at h2 h3
  subst h2 h3
  obtain ⟨hget, _⟩ := I.pin (a, oe) (List.mem_append_left _ (List.mem_cons_self ..))
  obtain ⟨vs, hv⟩ := hf
  have hx : ObjOk X.prog X.w H s.heap dd (.xd fs) := I.hok dd _ ed
  obtain ⟨mA, hns, hr⟩ := hx
  obtain ⟨od, ho, hl⟩ := lookIn_ns hns
  have J : PySem.W.InstAt s.heap a oe D (some od) := ⟨hget, hz.1, by unfold PySem.W.notCls; rw [hv] <;> rfl, by rw [hz.2]; exact ho⟩
  exact PySem.W.kia_tup (PySem.W.kitx_exc C.cl C.c.hg C.c.hk C.c.hs C.c.ha C.c.hn C.c.ht C.c.hm) I.kIn J h1 e (fun z => nomatch z) fun tk => ⟨.bl b, H, I.kept (t' := tk) fun _ _ z => z, rfl, q⟩
theorem passL' {X : Cx} (σ : L2.St) : PassesAt (L2.CX X.prog X.w) X σ E0 := fun pins H s e s' I c => passL pins σ H s e s' I c
/-- an own exception of one field: what raising and catching it asks -/
structure XT (P : Program) (w : World) (K : PySem.W.Frag) (mg : Str → Option Value) (base : Heap) (C : Addr) (nm fld : Str) : Prop where
  xc : XcK K C fld
  xf : XfC K C
  xh : XhC K C
  init : ∃ fN fdN, PySem.W.findIn K (.ref C) "__init__" = some (some (.ref fN)) ∧ PySem.W.typeIn K (.ref fN) = some (.type "function") ∧ FnOk P w K mg base CX0 1 fN fdN ["self", fld] (spXI C fld) ∧ Binds K fdN ["self", fld] []
  g : mg nm = some (.ref C)
theorem u_snotin {X : Cx} (w : World) (hw : X.w = w := by rfl) : OpR X (compareOp .NotIn) (rSNotIn w) := hw ▸ or_snotin
end G0
namespace G0
open PySem PySem.Spec PyProof.Rows L2
/-! ### data that is the same -/
mutual
theorem eqv_self : ∀ d : PyData, PyData.canLay0 d = true → PyData.eqv d d = true
  | .none, _ => by simp [PyData.eqv]
  | .bool b, _ => by simp [PyData.eqv]
  | .int i, _ => by simp [PyData.eqv]
  | .str z, _ => by simp [PyData.eqv]
  | .dict _, h => by simp [PyData.canLay0] at h
  | .list ds, h => by
    simp only [PyData.eqv]
    exact eqvs_self ds (by simpa [PyData.canLay0] using h)
  | .tuple ds, h => by
    simp only [PyData.eqv]
    exact eqvs_self ds (by simpa [PyData.canLay0] using h)
theorem eqvs_self : ∀ ds : List PyData, PyData.canLayAll0 ds = true → PyData.eqvAll ds ds = true
  | [], _ => by simp [PyData.eqvAll]
  | d :: ds, h => by
    simp only [PyData.canLayAll0, Bool.and_eq_true] at h
    simp only [PyData.eqvAll, eqv_self d h.1, eqvs_self ds h.2, Bool.and_true]
end
theorem eqv_shaped {d : PyData} (h : SeqAt.shaped d = true) : PyData.eqv d d = true := eqv_self d (Bool.and_eq_true_iff.mp h).1
theorem shaped_pair {z : Str} (h : PyData.strOk z = true) (i : Int) : SeqAt.shaped (.tuple [.str z, .int i]) = true := by
  show ((PyData.tuple [.str z, .int i]).canLay0 && decide ((PyData.tuple [.str z, .int i]).depth ≤ 64)) = true
  simp [PyData.canLay0, PyData.canLayAll0, PyData.depth, PyData.depthAll, h]
end G0
namespace G0
open PySem PySem.Spec PyProof.Rows L2
/-! ### set(xs) of a tuple of ints, tuple of it sorted -/
section
variable {P : Program} {w : World} {A : Around} {E : Value → Shared → Prop} {s : Shared}
set_option maxRecDepth 100000 in
set_option maxHeartbeats 3200000 in
theorem set_of_intsT {l : Addr} {items : Array Value} (ns : List Int) {Q : Value → Shared → Prop} (calm : A.handled = none) (il : s.heap.IsTuple l items) (are : IntsAre items.toList ns) (few : ns.length + 1 < scanBound)
    (h : ∀ (h' : Heap) (tk c : Nat), SetR w h' s.heap.objs.size (fun j => decide (j ∈ ns)) c → c ≤ ns.length → (∀ b o, s.heap.get? b = some o → h'.get? b = some o) → Q (.ref s.heap.objs.size) { s with heap := h', toks := tk }) :
    wpAny (model P w) A (call (.type "set") [.ref l]) Q E s := by
  have sz : items.size = ns.length := by
    rw [← IntsAre.length are, Array.length_toList]
  obtain ⟨c, tl, mro⟩ := F.called_set.mro
  have m1 := F.called_set.made
  have m2 := F.called_set.sub
  refine wpAny_call (codeAny_of_tree ?_)
  show wpAny _ _ (callAny (.type "set") _) _ _ _
  refine wpAny_pure ⟨Code.quiet_builtin _ (by decide +kernel), codeAny_builtin F.entry_type_call ?_⟩
  rw [Around.under_plain (weight_type_call_type "set" [.ref l] []) rfl]
  have m3 := F.called_set.notType
  have m4 := F.called_set.canCreate
  have m5 := F.typeCall_set_1 (.ref l)
  repeat any_goals first | assumption | wp_step
  refine codeAny_mono (code_set_led1 (.ref l) (E := E) (Q₁ := fun obj s1 => obj = .ref s.heap.objs.size ∧ s1 = { s with heap := s.heap.push (bareS w) }) ⟨rfl, rfl⟩) fun r s1 told => ?_
  match r, told with
  | .error e, told => exact told
  | .ok .next, told => exact told.elim
  | .ok .brk, told => exact told.elim
  | .ok .cont, told => exact told.elim
  | .ok (.ret obj), told =>
    obtain ⟨rfl, rfl⟩ := told
    have at1 : (s.heap.push (bareS w)).get? s.heap.objs.size = some (bareS w) := Heap.get?_push_size _ rfl
    have ty1 : Shared.TypeIs { s with heap := s.heap.push (bareS w) } (.ref s.heap.objs.size) "set" := ⟨_, at1, rfl⟩
    have i1 := F.called_set.init.lookup
    have i2 := F.called_set.init.bind (.ref s.heap.objs.size)
    repeat any_goals first | assumption | wp_step
    refine codeAny_mono (codeAny_call_builtin (R := wants (fun r s2 => r = .none ∧ ∃ h' tk c, s2 = { s with heap := h', toks := tk } ∧ SetR w h' s.heap.objs.size (fun j => decide (j ∈ ns)) c ∧ c ≤ ns.length ∧
      (∀ b o, s.heap.get? b = some o → h'.get? b = some o)) E) F.called_set.init.plain F.entry_set_init (check_set_init_1 ty1 ?_)) fun r2 s2 told2 => ?_
    · obtain ⟨⟨k1, k2, k3, k4⟩, ol, oc, nl, od⟩ := il
      simp only at oc od
      subst oc
      subst od
      have ol' : (s.heap.push (bareS w)).get? l = some { cls := .type "tuple", dict := k2, data := .seq items nl, slots := k4 } := Heap.get?_push_of_some _ ol
      have b1 := F.sub_tuple_set
      have b2 := F.sub_tuple_frozenset
      have b3 : (Value.type "tuple" == Value.type "dict") = false := by decide
      have il1 : (s.heap.push (bareS w)).IsTuple l items := ⟨_, ol', rfl, nl, rfl⟩
      unfold Builtin.«set.__init__» noKeywords Builtin.Frozenset.updateFrom
      generalize gen : pyIter = walker
      wp_walk
      subst gen
      refine wpAny_pyIter_tuple il1 (wpAny_bind (wpAny_runValue ?_))
      have ll : l < s.heap.objs.size := Heap.lt_size ol
      have z1 : (s.heap.push (bareS w)).objs.size = s.heap.objs.size + 1 := Heap.size_push ..
      have d1 : l ≠ (s.heap.push (bareS w)).objs.size := by rw [z1]; exact Nat.ne_of_lt (Nat.lt_succ_of_lt ll)
      have d2 : s.heap.objs.size ∉ [(s.heap.push (bareS w)).objs.size, l] := by
        simp only [List.mem_cons, List.not_mem_nil, or_false, not_or]
        rw [z1]
        exact ⟨Nat.ne_of_lt (Nat.lt_succ_self _), Nat.ne_of_gt ll⟩
      have vals : ∀ (i : Nat) (v : Value), items[i]? = some v → ∃ k t, ns[i]? = some k ∧ v = .int k t := fun i v hv => by
        have li : i < ns.length := by
          rw [← sz]
          exact (Array.getElem?_eq_some_iff.mp hv).1
        obtain ⟨t, e⟩ := PyProof.Rows.IntsAre.int_at are i v (by rw [Array.getElem?_toList]; exact hv)
        refine ⟨ns[i], t, List.getElem?_eq_getElem li, ?_⟩
        rw [e, List.getD_eq_getElem?_getD, List.getElem?_eq_getElem li]
        rfl
      refine set_update_ints ((Walks.tuple (by simp [calm]) _ l d1 items).toS) s.heap.objs.size d2 ns sz few vals (items.size - 0) 0 _ (by omega) (Nat.zero_le _)
        ⟨⟨_, Heap.get?_push_size _ rfl, rfl, rfl⟩, (il1.at fun o e => Heap.get?_push_of_some _ e)⟩ ⟨0, Nat.le_refl 0, setR_new_at (Heap.get?_push_of_some _ at1)⟩ fun s' c' moved le new => ?_
      obtain ⟨h', g', d', tk', o'⟩ := s'
      have y1 : g' = s.gens := moved.gens
      have y2 : d' = s.drawn := moved.drawn
      have y3 : o' = s.os := moved.os
      subst y1 y2 y3
      show wpAny _ _ _ _ _ _
      refine wpAny_pure ?_
      show wpAny _ _ (ret Value.none) _ _ _
      rw [sz] at le
      refine wpAny_pure ⟨rfl, h', tk', c', rfl, new, le, fun b o e => moved.heap b o ?_ (Heap.get?_push_of_some _ (Heap.get?_push_of_some _ e))⟩
      have lb := Heap.lt_size e
      simp only [List.mem_cons, List.not_mem_nil, or_false, not_or]
      rw [z1]
      exact ⟨Nat.ne_of_lt lb, Nat.ne_of_lt (Nat.lt_succ_of_lt lb)⟩
    · match r2, told2 with
      | .error e, told2 => exact told2
      | .ok .next, told2 => exact told2.elim
      | .ok .brk, told2 => exact told2.elim
      | .ok .cont, told2 => exact told2.elim
      | .ok (.ret r), told2 =>
        obtain ⟨rfl, h', tk, c, rfl, new, le, old⟩ := told2
        repeat any_goals first | assumption | wp_step
        exact h _ _ _ new le old
end
section
variable {X : Cx}
def rSetOfTI (K : PySem.W.Frag) (w : World) : List V → Hp → VK → Prop := fun xs H Q => ∃ (l : Addr) (ns : List Int), xs = [V.ref l] ∧ SqT K H l (ns.map V.int) ∧ ns.length < 60 ∧ ∀ a c, H a = none → c ≤ ns.length → Q (.ref a) (upd H a (SetO w a (fun j => decide (j ∈ ns)) c))
theorem cr_setOfTI (calm : X.calm = true) : CallR X (.type "set") (rSetOfTI X.K X.w) := by
  rintro pins s σ H xs us Q I r ⟨l, ns, rfl, hl, few, q⟩
  rw [Vals.ref1 r]
  obtain ⟨its, rv, pl, _⟩ := I.tuple hl
  refine set_of_intsT (P := X.prog) (w := X.w) ns (I.ok.hd calm) pl (by simpa using rv.ints) (by unfold scanBound; omega) fun h' tk c new le old => ?_
  exact ⟨.ref s.heap.objs.size, upd H s.heap.objs.size (SetO X.w s.heap.objs.size (fun j => decide (j ∈ ns)) c), I.laid (t' := tk) old (Nat.le_refl _) (setO_new new), rfl, q _ c (I.hok.fresh (Nat.le_refl _)) le⟩
end
end G0
namespace G0
open PySem PySem.Spec PyProof.Rows L2
def kS (z : Str) : Key := Sum.inr z
theorem kS_ne {a b : Str} (h : decide (a = b) = false) : ¬ (kS a = kS b) := fun e => of_decide_eq_false h (Sum.inr.inj e)
def boxL (me : Int) (stt : Str) (sp : V) (ha : Addr) (oa : Addr) (la : Addr) (ta : Addr) (bg : V) (cn : Int) (se : Addr) : List (Key × V) := [(kS "me", .int me), (kS "state", .str stt), (kS "stamp", sp), (kS "hand", .ref ha), (kS "open", .ref oa), (kS "late", .ref la), (kS "tells", .ref ta), (kS "begin", bg), (kS "count", .int cn), (kS "set", .ref se)]
theorem boxL_me (me : Int) (stt : Str) (sp : V) (ha : Addr) (oa : Addr) (la : Addr) (ta : Addr) (bg : V) (cn : Int) (se : Addr) : valV (boxL me stt sp ha oa la ta bg cn se) (kS "me") = some (.int me) := by
  unfold boxL
  rw [valV_pos rfl]
theorem boxL_stt (me : Int) (stt : Str) (sp : V) (ha : Addr) (oa : Addr) (la : Addr) (ta : Addr) (bg : V) (cn : Int) (se : Addr) : valV (boxL me stt sp ha oa la ta bg cn se) (kS "state") = some (.str stt) := by
  unfold boxL
  rw [valV_neg (kS_ne (by decide +kernel)), valV_pos rfl]
theorem boxL_sp (me : Int) (stt : Str) (sp : V) (ha : Addr) (oa : Addr) (la : Addr) (ta : Addr) (bg : V) (cn : Int) (se : Addr) : valV (boxL me stt sp ha oa la ta bg cn se) (kS "stamp") = some (sp) := by
  unfold boxL
  rw [valV_neg (kS_ne (by decide +kernel)), valV_neg (kS_ne (by decide +kernel)), valV_pos rfl]
theorem boxL_ha (me : Int) (stt : Str) (sp : V) (ha : Addr) (oa : Addr) (la : Addr) (ta : Addr) (bg : V) (cn : Int) (se : Addr) : valV (boxL me stt sp ha oa la ta bg cn se) (kS "hand") = some (.ref ha) := by
  unfold boxL
  rw [valV_neg (kS_ne (by decide +kernel)), valV_neg (kS_ne (by decide +kernel)), valV_neg (kS_ne (by decide +kernel)), valV_pos rfl]
theorem boxL_oa (me : Int) (stt : Str) (sp : V) (ha : Addr) (oa : Addr) (la : Addr) (ta : Addr) (bg : V) (cn : Int) (se : Addr) : valV (boxL me stt sp ha oa la ta bg cn se) (kS "open") = some (.ref oa) := by
  unfold boxL
  rw [valV_neg (kS_ne (by decide +kernel)), valV_neg (kS_ne (by decide +kernel)), valV_neg (kS_ne (by decide +kernel)), valV_neg (kS_ne (by decide +kernel)), valV_pos rfl]
theorem boxL_la (me : Int) (stt : Str) (sp : V) (ha : Addr) (oa : Addr) (la : Addr) (ta : Addr) (bg : V) (cn : Int) (se : Addr) : valV (boxL me stt sp ha oa la ta bg cn se) (kS "late") = some (.ref la) := by
  unfold boxL
  rw [valV_neg (kS_ne (by decide +kernel)), valV_neg (kS_ne (by decide +kernel)), valV_neg (kS_ne (by decide +kernel)), valV_neg (kS_ne (by decide +kernel)), valV_neg (kS_ne (by decide +kernel)), valV_pos rfl]
theorem boxL_ta (me : Int) (stt : Str) (sp : V) (ha : Addr) (oa : Addr) (la : Addr) (ta : Addr) (bg : V) (cn : Int) (se : Addr) : valV (boxL me stt sp ha oa la ta bg cn se) (kS "tells") = some (.ref ta) := by
  unfold boxL
  rw [valV_neg (kS_ne (by decide +kernel)), valV_neg (kS_ne (by decide +kernel)), valV_neg (kS_ne (by decide +kernel)), valV_neg (kS_ne (by decide +kernel)), valV_neg (kS_ne (by decide +kernel)), valV_neg (kS_ne (by decide +kernel)), valV_pos rfl]
theorem boxL_bg (me : Int) (stt : Str) (sp : V) (ha : Addr) (oa : Addr) (la : Addr) (ta : Addr) (bg : V) (cn : Int) (se : Addr) : valV (boxL me stt sp ha oa la ta bg cn se) (kS "begin") = some (bg) := by
  unfold boxL
  rw [valV_neg (kS_ne (by decide +kernel)), valV_neg (kS_ne (by decide +kernel)), valV_neg (kS_ne (by decide +kernel)), valV_neg (kS_ne (by decide +kernel)), valV_neg (kS_ne (by decide +kernel)), valV_neg (kS_ne (by decide +kernel)), valV_neg (kS_ne (by decide +kernel)), valV_pos rfl]
theorem boxL_cn (me : Int) (stt : Str) (sp : V) (ha : Addr) (oa : Addr) (la : Addr) (ta : Addr) (bg : V) (cn : Int) (se : Addr) : valV (boxL me stt sp ha oa la ta bg cn se) (kS "count") = some (.int cn) := by
  unfold boxL
  rw [valV_neg (kS_ne (by decide +kernel)), valV_neg (kS_ne (by decide +kernel)), valV_neg (kS_ne (by decide +kernel)), valV_neg (kS_ne (by decide +kernel)), valV_neg (kS_ne (by decide +kernel)), valV_neg (kS_ne (by decide +kernel)), valV_neg (kS_ne (by decide +kernel)), valV_neg (kS_ne (by decide +kernel)), valV_pos rfl]
theorem boxL_se (me : Int) (stt : Str) (sp : V) (ha : Addr) (oa : Addr) (la : Addr) (ta : Addr) (bg : V) (cn : Int) (se : Addr) : valV (boxL me stt sp ha oa la ta bg cn se) (kS "set") = some (.ref se) := by
  unfold boxL
  rw [valV_neg (kS_ne (by decide +kernel)), valV_neg (kS_ne (by decide +kernel)), valV_neg (kS_ne (by decide +kernel)), valV_neg (kS_ne (by decide +kernel)), valV_neg (kS_ne (by decide +kernel)), valV_neg (kS_ne (by decide +kernel)), valV_neg (kS_ne (by decide +kernel)), valV_neg (kS_ne (by decide +kernel)), valV_neg (kS_ne (by decide +kernel)), valV_pos rfl]
theorem boxL_put_me (me : Int) (stt : Str) (sp : V) (ha : Addr) (oa : Addr) (la : Addr) (ta : Addr) (bg : V) (cn : Int) (se : Addr) (me' : Int) : putK (boxL me stt sp ha oa la ta bg cn se) (kS "me") (.int me') = boxL me' stt sp ha oa la ta bg cn se := by
  unfold putK
  rw [valV_any, boxL_me]
  simp only [Option.isSome_some, if_true]
  unfold boxL
  simp only [List.map_cons, List.map_nil]
  rw [if_pos True.intro, if_neg (kS_ne (by decide +kernel)), if_neg (kS_ne (by decide +kernel)), if_neg (kS_ne (by decide +kernel)), if_neg (kS_ne (by decide +kernel)), if_neg (kS_ne (by decide +kernel)), if_neg (kS_ne (by decide +kernel)), if_neg (kS_ne (by decide +kernel)), if_neg (kS_ne (by decide +kernel)), if_neg (kS_ne (by decide +kernel))]
theorem boxL_put_stt (me : Int) (stt : Str) (sp : V) (ha : Addr) (oa : Addr) (la : Addr) (ta : Addr) (bg : V) (cn : Int) (se : Addr) (stt' : Str) : putK (boxL me stt sp ha oa la ta bg cn se) (kS "state") (.str stt') = boxL me stt' sp ha oa la ta bg cn se := by
  unfold putK
  rw [valV_any, boxL_stt]
  simp only [Option.isSome_some, if_true]
  unfold boxL
  simp only [List.map_cons, List.map_nil]
  rw [if_neg (kS_ne (by decide +kernel)), if_pos True.intro, if_neg (kS_ne (by decide +kernel)), if_neg (kS_ne (by decide +kernel)), if_neg (kS_ne (by decide +kernel)), if_neg (kS_ne (by decide +kernel)), if_neg (kS_ne (by decide +kernel)), if_neg (kS_ne (by decide +kernel)), if_neg (kS_ne (by decide +kernel)), if_neg (kS_ne (by decide +kernel))]
theorem boxL_put_sp (me : Int) (stt : Str) (sp : V) (ha : Addr) (oa : Addr) (la : Addr) (ta : Addr) (bg : V) (cn : Int) (se : Addr) (sp' : V) : putK (boxL me stt sp ha oa la ta bg cn se) (kS "stamp") (sp') = boxL me stt sp' ha oa la ta bg cn se := by
  unfold putK
  rw [valV_any, boxL_sp]
  simp only [Option.isSome_some, if_true]
  unfold boxL
  simp only [List.map_cons, List.map_nil]
  rw [if_neg (kS_ne (by decide +kernel)), if_neg (kS_ne (by decide +kernel)), if_pos True.intro, if_neg (kS_ne (by decide +kernel)), if_neg (kS_ne (by decide +kernel)), if_neg (kS_ne (by decide +kernel)), if_neg (kS_ne (by decide +kernel)), if_neg (kS_ne (by decide +kernel)), if_neg (kS_ne (by decide +kernel)), if_neg (kS_ne (by decide +kernel))]
theorem boxL_put_ha (me : Int) (stt : Str) (sp : V) (ha : Addr) (oa : Addr) (la : Addr) (ta : Addr) (bg : V) (cn : Int) (se : Addr) (ha' : Addr) : putK (boxL me stt sp ha oa la ta bg cn se) (kS "hand") (.ref ha') = boxL me stt sp ha' oa la ta bg cn se := by
  unfold putK
  rw [valV_any, boxL_ha]
  simp only [Option.isSome_some, if_true]
  unfold boxL
  simp only [List.map_cons, List.map_nil]
  rw [if_neg (kS_ne (by decide +kernel)), if_neg (kS_ne (by decide +kernel)), if_neg (kS_ne (by decide +kernel)), if_pos True.intro, if_neg (kS_ne (by decide +kernel)), if_neg (kS_ne (by decide +kernel)), if_neg (kS_ne (by decide +kernel)), if_neg (kS_ne (by decide +kernel)), if_neg (kS_ne (by decide +kernel)), if_neg (kS_ne (by decide +kernel))]
theorem boxL_put_oa (me : Int) (stt : Str) (sp : V) (ha : Addr) (oa : Addr) (la : Addr) (ta : Addr) (bg : V) (cn : Int) (se : Addr) (oa' : Addr) : putK (boxL me stt sp ha oa la ta bg cn se) (kS "open") (.ref oa') = boxL me stt sp ha oa' la ta bg cn se := by
  unfold putK
  rw [valV_any, boxL_oa]
  simp only [Option.isSome_some, if_true]
  unfold boxL
  simp only [List.map_cons, List.map_nil]
  rw [if_neg (kS_ne (by decide +kernel)), if_neg (kS_ne (by decide +kernel)), if_neg (kS_ne (by decide +kernel)), if_neg (kS_ne (by decide +kernel)), if_pos True.intro, if_neg (kS_ne (by decide +kernel)), if_neg (kS_ne (by decide +kernel)), if_neg (kS_ne (by decide +kernel)), if_neg (kS_ne (by decide +kernel)), if_neg (kS_ne (by decide +kernel))]
theorem boxL_put_la (me : Int) (stt : Str) (sp : V) (ha : Addr) (oa : Addr) (la : Addr) (ta : Addr) (bg : V) (cn : Int) (se : Addr) (la' : Addr) : putK (boxL me stt sp ha oa la ta bg cn se) (kS "late") (.ref la') = boxL me stt sp ha oa la' ta bg cn se := by
  unfold putK
  rw [valV_any, boxL_la]
  simp only [Option.isSome_some, if_true]
  unfold boxL
  simp only [List.map_cons, List.map_nil]
  rw [if_neg (kS_ne (by decide +kernel)), if_neg (kS_ne (by decide +kernel)), if_neg (kS_ne (by decide +kernel)), if_neg (kS_ne (by decide +kernel)), if_neg (kS_ne (by decide +kernel)), if_pos True.intro, if_neg (kS_ne (by decide +kernel)), if_neg (kS_ne (by decide +kernel)), if_neg (kS_ne (by decide +kernel)), if_neg (kS_ne (by decide +kernel))]
theorem boxL_put_ta (me : Int) (stt : Str) (sp : V) (ha : Addr) (oa : Addr) (la : Addr) (ta : Addr) (bg : V) (cn : Int) (se : Addr) (ta' : Addr) : putK (boxL me stt sp ha oa la ta bg cn se) (kS "tells") (.ref ta') = boxL me stt sp ha oa la ta' bg cn se := by
  unfold putK
  rw [valV_any, boxL_ta]
  simp only [Option.isSome_some, if_true]
  unfold boxL
  simp only [List.map_cons, List.map_nil]
  rw [if_neg (kS_ne (by decide +kernel)), if_neg (kS_ne (by decide +kernel)), if_neg (kS_ne (by decide +kernel)), if_neg (kS_ne (by decide +kernel)), if_neg (kS_ne (by decide +kernel)), if_neg (kS_ne (by decide +kernel)), if_pos True.intro, if_neg (kS_ne (by decide +kernel)), if_neg (kS_ne (by decide +kernel)), if_neg (kS_ne (by decide +kernel))]
theorem boxL_put_bg (me : Int) (stt : Str) (sp : V) (ha : Addr) (oa : Addr) (la : Addr) (ta : Addr) (bg : V) (cn : Int) (se : Addr) (bg' : V) : putK (boxL me stt sp ha oa la ta bg cn se) (kS "begin") (bg') = boxL me stt sp ha oa la ta bg' cn se := by
  unfold putK
  rw [valV_any, boxL_bg]
  simp only [Option.isSome_some, if_true]
  unfold boxL
  simp only [List.map_cons, List.map_nil]
  rw [if_neg (kS_ne (by decide +kernel)), if_neg (kS_ne (by decide +kernel)), if_neg (kS_ne (by decide +kernel)), if_neg (kS_ne (by decide +kernel)), if_neg (kS_ne (by decide +kernel)), if_neg (kS_ne (by decide +kernel)), if_neg (kS_ne (by decide +kernel)), if_pos True.intro, if_neg (kS_ne (by decide +kernel)), if_neg (kS_ne (by decide +kernel))]
theorem boxL_put_cn (me : Int) (stt : Str) (sp : V) (ha : Addr) (oa : Addr) (la : Addr) (ta : Addr) (bg : V) (cn : Int) (se : Addr) (cn' : Int) : putK (boxL me stt sp ha oa la ta bg cn se) (kS "count") (.int cn') = boxL me stt sp ha oa la ta bg cn' se := by
  unfold putK
  rw [valV_any, boxL_cn]
  simp only [Option.isSome_some, if_true]
  unfold boxL
  simp only [List.map_cons, List.map_nil]
  rw [if_neg (kS_ne (by decide +kernel)), if_neg (kS_ne (by decide +kernel)), if_neg (kS_ne (by decide +kernel)), if_neg (kS_ne (by decide +kernel)), if_neg (kS_ne (by decide +kernel)), if_neg (kS_ne (by decide +kernel)), if_neg (kS_ne (by decide +kernel)), if_neg (kS_ne (by decide +kernel)), if_pos True.intro, if_neg (kS_ne (by decide +kernel))]
theorem boxL_put_se (me : Int) (stt : Str) (sp : V) (ha : Addr) (oa : Addr) (la : Addr) (ta : Addr) (bg : V) (cn : Int) (se : Addr) (se' : Addr) : putK (boxL me stt sp ha oa la ta bg cn se) (kS "set") (.ref se') = boxL me stt sp ha oa la ta bg cn se' := by
  unfold putK
  rw [valV_any, boxL_se]
  simp only [Option.isSome_some, if_true]
  unfold boxL
  simp only [List.map_cons, List.map_nil]
  rw [if_neg (kS_ne (by decide +kernel)), if_neg (kS_ne (by decide +kernel)), if_neg (kS_ne (by decide +kernel)), if_neg (kS_ne (by decide +kernel)), if_neg (kS_ne (by decide +kernel)), if_neg (kS_ne (by decide +kernel)), if_neg (kS_ne (by decide +kernel)), if_neg (kS_ne (by decide +kernel)), if_neg (kS_ne (by decide +kernel)), if_pos True.intro]
end G0
namespace G0
open PySem PySem.Spec PyProof.Rows L2
def box7 (me : Int) (ha oa la ta : Addr) : List (Key × V) := [(kS "me", .int me), (kS "state", .str "out"), (kS "stamp", .non), (kS "hand", .ref ha), (kS "open", .ref oa), (kS "late", .ref la), (kS "tells", .ref ta)]
theorem merge7 (me : Int) (ha oa la ta : Addr) : mergeK [] (box7 me ha oa la ta) = box7 me ha oa la ta := by
  unfold mergeK box7
  simp only [List.foldl_cons, List.foldl_nil]
  rw [putK_new (kvs := []) (k := kS "me") _ (by rfl)]
  simp only [List.nil_append, List.cons_append]
  rw [putK_new (kvs := [(kS "me", .int me)]) (k := kS "state") _ (by rw [valV_neg (kS_ne (by decide +kernel)), valV_nil])]
  simp only [List.nil_append, List.cons_append]
  rw [putK_new (kvs := [(kS "me", .int me), (kS "state", .str "out")]) (k := kS "stamp") _ (by rw [valV_neg (kS_ne (by decide +kernel)), valV_neg (kS_ne (by decide +kernel)), valV_nil])]
  simp only [List.nil_append, List.cons_append]
  rw [putK_new (kvs := [(kS "me", .int me), (kS "state", .str "out"), (kS "stamp", .non)]) (k := kS "hand") _ (by rw [valV_neg (kS_ne (by decide +kernel)), valV_neg (kS_ne (by decide +kernel)), valV_neg (kS_ne (by decide +kernel)), valV_nil])]
  simp only [List.nil_append, List.cons_append]
  rw [putK_new (kvs := [(kS "me", .int me), (kS "state", .str "out"), (kS "stamp", .non), (kS "hand", .ref ha)]) (k := kS "open") _ (by rw [valV_neg (kS_ne (by decide +kernel)), valV_neg (kS_ne (by decide +kernel)), valV_neg (kS_ne (by decide +kernel)), valV_neg (kS_ne (by decide +kernel)), valV_nil])]
  simp only [List.nil_append, List.cons_append]
  rw [putK_new (kvs := [(kS "me", .int me), (kS "state", .str "out"), (kS "stamp", .non), (kS "hand", .ref ha), (kS "open", .ref oa)]) (k := kS "late") _ (by rw [valV_neg (kS_ne (by decide +kernel)), valV_neg (kS_ne (by decide +kernel)), valV_neg (kS_ne (by decide +kernel)), valV_neg (kS_ne (by decide +kernel)), valV_neg (kS_ne (by decide +kernel)), valV_nil])]
  simp only [List.nil_append, List.cons_append]
  rw [putK_new (kvs := [(kS "me", .int me), (kS "state", .str "out"), (kS "stamp", .non), (kS "hand", .ref ha), (kS "open", .ref oa), (kS "late", .ref la)]) (k := kS "tells") _ (by rw [valV_neg (kS_ne (by decide +kernel)), valV_neg (kS_ne (by decide +kernel)), valV_neg (kS_ne (by decide +kernel)), valV_neg (kS_ne (by decide +kernel)), valV_neg (kS_ne (by decide +kernel)), valV_neg (kS_ne (by decide +kernel)), valV_nil])]
  simp only [List.nil_append, List.cons_append]

def box8 (me : Int) (ha oa la ta : Addr) (bg : V) : List (Key × V) := [(kS "me", .int me), (kS "state", .str "out"), (kS "stamp", .non), (kS "hand", .ref ha), (kS "open", .ref oa), (kS "late", .ref la), (kS "tells", .ref ta), (kS "begin", bg)]
def box9 (me : Int) (ha oa la ta : Addr) (bg : V) (cn : Int) : List (Key × V) := [(kS "me", .int me), (kS "state", .str "out"), (kS "stamp", .non), (kS "hand", .ref ha), (kS "open", .ref oa), (kS "late", .ref la), (kS "tells", .ref ta), (kS "begin", bg), (kS "count", .int cn)]
def boxC (me : Int) (ha oa la ta : Addr) (cn : Int) : List (Key × V) := [(kS "me", .int me), (kS "state", .str "out"), (kS "stamp", .non), (kS "hand", .ref ha), (kS "open", .ref oa), (kS "late", .ref la), (kS "tells", .ref ta), (kS "count", .int cn)]
def boxE (me : Int) (ha oa la ta : Addr) (cn : Int) : List (Key × V) := [(kS "me", .int me), (kS "state", .str "out"), (kS "stamp", .non), (kS "hand", .ref ha), (kS "open", .ref oa), (kS "late", .ref la), (kS "tells", .ref ta), (kS "count", .int cn), (kS "begin", .non)]
theorem put_begin (me : Int) (ha oa la ta : Addr) (bg : V) : putK (box7 me ha oa la ta) (kS "begin") (bg) = box8 me ha oa la ta bg := by
  rw [putK_new _ (by unfold box7; rw [valV_neg (kS_ne (by decide +kernel)), valV_neg (kS_ne (by decide +kernel)), valV_neg (kS_ne (by decide +kernel)), valV_neg (kS_ne (by decide +kernel)), valV_neg (kS_ne (by decide +kernel)), valV_neg (kS_ne (by decide +kernel)), valV_neg (kS_ne (by decide +kernel)), valV_nil])]
  rfl
theorem put_count (me : Int) (ha oa la ta : Addr) (bg : V) (cn : Int) : putK (box8 me ha oa la ta bg) (kS "count") (.int cn) = box9 me ha oa la ta bg cn := by
  rw [putK_new _ (by unfold box8; rw [valV_neg (kS_ne (by decide +kernel)), valV_neg (kS_ne (by decide +kernel)), valV_neg (kS_ne (by decide +kernel)), valV_neg (kS_ne (by decide +kernel)), valV_neg (kS_ne (by decide +kernel)), valV_neg (kS_ne (by decide +kernel)), valV_neg (kS_ne (by decide +kernel)), valV_neg (kS_ne (by decide +kernel)), valV_nil])]
  rfl
theorem put_set (me : Int) (ha oa la ta : Addr) (bg : V) (cn : Int) (se : Addr) : putK (box9 me ha oa la ta bg cn) (kS "set") (.ref se) = boxL me "out" .non ha oa la ta bg cn se := by
  rw [putK_new _ (by unfold box9; rw [valV_neg (kS_ne (by decide +kernel)), valV_neg (kS_ne (by decide +kernel)), valV_neg (kS_ne (by decide +kernel)), valV_neg (kS_ne (by decide +kernel)), valV_neg (kS_ne (by decide +kernel)), valV_neg (kS_ne (by decide +kernel)), valV_neg (kS_ne (by decide +kernel)), valV_neg (kS_ne (by decide +kernel)), valV_neg (kS_ne (by decide +kernel)), valV_nil])]
  rfl
theorem put_countE (me : Int) (ha oa la ta : Addr) (cn : Int) : putK (box7 me ha oa la ta) (kS "count") (.int cn) = boxC me ha oa la ta cn := by
  rw [putK_new _ (by unfold box7; rw [valV_neg (kS_ne (by decide +kernel)), valV_neg (kS_ne (by decide +kernel)), valV_neg (kS_ne (by decide +kernel)), valV_neg (kS_ne (by decide +kernel)), valV_neg (kS_ne (by decide +kernel)), valV_neg (kS_ne (by decide +kernel)), valV_neg (kS_ne (by decide +kernel)), valV_nil])]
  rfl
theorem put_beginE (me : Int) (ha oa la ta : Addr) (cn : Int) : putK (boxC me ha oa la ta cn) (kS "begin") (.non) = boxE me ha oa la ta cn := by
  rw [putK_new _ (by unfold boxC; rw [valV_neg (kS_ne (by decide +kernel)), valV_neg (kS_ne (by decide +kernel)), valV_neg (kS_ne (by decide +kernel)), valV_neg (kS_ne (by decide +kernel)), valV_neg (kS_ne (by decide +kernel)), valV_neg (kS_ne (by decide +kernel)), valV_neg (kS_ne (by decide +kernel)), valV_neg (kS_ne (by decide +kernel)), valV_nil])]
  rfl
theorem boxE_state (me : Int) (ha oa la ta : Addr) (cn : Int) : valV (boxE me ha oa la ta cn) (kS "state") = some (.str "out") := by
  unfold boxE
  rw [valV_neg (kS_ne (by decide +kernel)), valV_pos rfl]
theorem boxE_stamp (me : Int) (ha oa la ta : Addr) (cn : Int) : valV (boxE me ha oa la ta cn) (kS "stamp") = some (.non) := by
  unfold boxE
  rw [valV_neg (kS_ne (by decide +kernel)), valV_neg (kS_ne (by decide +kernel)), valV_pos rfl]
theorem boxE_hand (me : Int) (ha oa la ta : Addr) (cn : Int) : valV (boxE me ha oa la ta cn) (kS "hand") = some (.ref ha) := by
  unfold boxE
  rw [valV_neg (kS_ne (by decide +kernel)), valV_neg (kS_ne (by decide +kernel)), valV_neg (kS_ne (by decide +kernel)), valV_pos rfl]
theorem boxE_count (me : Int) (ha oa la ta : Addr) (cn : Int) : valV (boxE me ha oa la ta cn) (kS "count") = some (.int cn) := by
  unfold boxE
  rw [valV_neg (kS_ne (by decide +kernel)), valV_neg (kS_ne (by decide +kernel)), valV_neg (kS_ne (by decide +kernel)), valV_neg (kS_ne (by decide +kernel)), valV_neg (kS_ne (by decide +kernel)), valV_neg (kS_ne (by decide +kernel)), valV_neg (kS_ne (by decide +kernel)), valV_pos rfl]
theorem boxE_begin (me : Int) (ha oa la ta : Addr) (cn : Int) : valV (boxE me ha oa la ta cn) (kS "begin") = some (.non) := by
  unfold boxE
  rw [valV_neg (kS_ne (by decide +kernel)), valV_neg (kS_ne (by decide +kernel)), valV_neg (kS_ne (by decide +kernel)), valV_neg (kS_ne (by decide +kernel)), valV_neg (kS_ne (by decide +kernel)), valV_neg (kS_ne (by decide +kernel)), valV_neg (kS_ne (by decide +kernel)), valV_neg (kS_ne (by decide +kernel)), valV_pos rfl]
theorem box9_begin (me : Int) (ha oa la ta : Addr) (bg : V) (cn : Int) : valV (box9 me ha oa la ta bg cn) (kS "begin") = some bg := by
  unfold box9
  rw [valV_neg (kS_ne (by decide +kernel)), valV_neg (kS_ne (by decide +kernel)), valV_neg (kS_ne (by decide +kernel)), valV_neg (kS_ne (by decide +kernel)), valV_neg (kS_ne (by decide +kernel)), valV_neg (kS_ne (by decide +kernel)), valV_neg (kS_ne (by decide +kernel)), valV_pos rfl]
end G0
namespace G0
open PySem PySem.Spec PyProof.Rows L2 NdefX ClX
section
variable {P : Program} {w : World} {K : PySem.W.Frag} {mg : Str → Option Value} {base : Heap} {C f : Addr} {fd : FuncData}
/-! ### a voter -/
structure BlV (mg : Str → Option Value) : Prop extends BlD mg where
  any : mg "any" = none
  all : mg "all" = none
  max : mg "max" = none
  set : mg "set" = none
theorem lc_yes {te : TE} {σ : L2.St} {H : Hp} {Q : VK} {B : Hp → Prop} (h : te σ H Q) : tYes σ H (fun b H3 => if b = true then te σ H3 Q else B H3) := by
  show (if true = true then te σ H Q else B H)
  exact iteT h
theorem dec_ii {a b : Int} : decide (V.int a = V.int b) = decide (a = b) := decide_eq_decide.mpr ⟨fun h => by cases h; rfl, fun h => by rw [h]⟩
theorem dec_str {a b : Str} : decide (V.str a = V.str b) = decide (a = b) := decide_eq_decide.mpr ⟨fun h => by cases h; rfl, fun h => by rw [h]⟩
def Me (P : Program) (w : World) (K : PySem.W.Frag) (mg : Str → Option Value) (base : Heap) (CX : CXT) (C : Addr) (x : Str) (k : Nat) (ps : List Str) (sp : Sp) : Prop :=
  ∃ f fd, FnOk P w K mg base CX k f fd ps sp ∧ Binds K fd ps [] ∧ Meth K C x f
structure VoT (K : PySem.W.Frag) (C : Addr) : Prop where
  cl : Cls K C
  me : NoAttr K C "me"
  state : NoAttr K C "state"
  sits : NoAttr K C "sits"
  count : NoAttr K C "count"
  stamp : NoAttr K C "stamp"
  hand : NoAttr K C "hand"
  known : NoAttr K C "known"
  desk : NoAttr K C "desk"
  sets : NoAttr K C "_sets"
  first : NoAttr K C "_first"
  set : NoAttr K C "_set"
def stpD (me : Int) : Option Int → PyData
  | none => .none
  | some c => .tuple [.int c, .int me, .int 0]
/-- tuples of ints stand at these places -/
def Tups (K : PySem.W.Frag) (H : Hp) (tas : List Addr) (S : List (List Int)) : Prop := tas.length = S.length ∧ ∀ (i : Nat) t one, tas[i]? = some t → S[i]? = some one → SqT K H t (one.map V.int)
structure VoR (K : PySem.W.Frag) (H : Hp) (C p dx sa : Addr) (me : Int) (stt : Str) (cnt : Int) (stp : Option Int) (hs : List Int) (S : List (List Int)) (fst : Int) (ss : List Int) (stpV : V) (hnd knw dsk sett : Addr) (tas : List Addr) : Prop where
  hp : H p = some (.ins C dx (voF me stt false cnt stpV hnd knw dsk sa fst sett))
  hst : Dp K H stpV (stpD me stp)
  hh : SqT K H hnd (hs.map V.int)
  hk : SqT K H knw []
  hs : H sa = some (.lst (tas.map V.ref))
  ht : Tups K H tas S
  hss : SqT K H sett (ss.map V.int)
def VoAt (K : PySem.W.Frag) (H : Hp) (C p dx sa : Addr) (me : Int) (stt : Str) (cnt : Int) (stp : Option Int) (hs : List Int) (S : List (List Int)) (fst : Int) (ss : List Int) : Prop :=
  ∃ stpV hnd knw dsk sett tas, VoR K H C p dx sa me stt cnt stp hs S fst ss stpV hnd knw dsk sett tas
section
variable {H H' : Hp} {p dx sa : Addr} {me cnt fst : Int} {stt : Str} {stp : Option Int} {hs ss : List Int} {S : List (List Int)} {stpV : V} {hnd knw dsk sett : Addr} {tas : List Addr}
theorem VoR.same (R : VoR K H C p dx sa me stt cnt stp hs S fst ss stpV hnd knw dsk sett tas) (s : Same H H') : VoR K H' C p dx sa me stt cnt stp hs S fst ss stpV hnd knw dsk sett tas :=
  ⟨s _ _ R.hp, dp_same s _ _ R.hst, sqt_same s R.hh, sqt_same s R.hk, s _ _ R.hs, ⟨R.ht.1, fun i t one h1 h2 => sqt_same s (R.ht.2 i t one h1 h2)⟩, sqt_same s R.hss⟩
theorem VoAt.same (A : VoAt K H C p dx sa me stt cnt stp hs S fst ss) (s : Same H H') : VoAt K H' C p dx sa me stt cnt stp hs S fst ss := by
  obtain ⟨_, _, _, _, _, _, R⟩ := A
  exact ⟨_, _, _, _, _, _, R.same s⟩
/-- tuples stay where what is no tuple changes -/
theorem sqt_mut {q : Addr} {o : HO} (hq : H q = some o) (no : (∀ xs, o ≠ .tup xs) ∧ ∀ u xs, o ≠ .frz u xs) (c : Chg q H H') {a : Addr} {xs : List V} (h : SqT K H a xs) : SqT K H' a xs := by
  rcases h with (z | ⟨o', z⟩) | z
  · exact .inl (.inl (c _ _ (fun e => by rw [e, hq] at z; exact no.1 _ (Option.some.inj z)) z))
  · exact .inl (.inr ⟨o', c _ _ (fun e => by rw [e, hq] at z; exact no.2 _ _ (Option.some.inj z)) z⟩)
  · exact .inr z
end
end

end G0
namespace G0
open PySem PySem.Spec PyProof.Rows L2 NdefX ClX
section
variable {P : Program} {w : World} {K : PySem.W.Frag} {mg : Str → Option Value} {base : Heap} {C f : Addr} {fd : FuncData}
/-! ### the free set -/
def spFreeSet (K : PySem.W.Frag) (C : Addr) : Sp := fun vs H Q _ => ∃ (p dx sa : Addr) (me cnt fst : Int) (stt : Str) (stp : Option Int) (hs ss : List Int) (S : List (List Int)), vs = [.ref p] ∧ VoAt K H C p dx sa me stt cnt stp hs S fst ss ∧ S.length ≤ 1000 ∧ (∀ one ∈ S, one.length ≤ 1000) ∧
  (S = [] → ∀ H', Same H H' → Q .non H') ∧ (S ≠ [] → ∀ H', Same H H' → Q (.int (fst % (S.length : Int))) H')
theorem sc_Voter_free_set : FnScope ["self", "many", "number", "step", "seat"] ["self"] (defScope s_Voter_free_set) :=
  ⟨rfl, rfl, rfl, by decide +kernel, rfl, by decide +kernel, by decide +kernel⟩
theorem ok_freeset (F : Fun K "free_set" "Voter.free_set" s_Voter_free_set f fd) (T : BlV mg) (VT : VoT K C) : FnOk P w K mg base CX0 2 f fd ["self"] (spFreeSet K C) := by
  refine F.ok sc_Voter_free_set (fun vs H Q E h => ?_) (fun cdv A outer s H vs Q E hr h => ?_)
  · obtain ⟨p, _, _, _, _, _, _, _, _, _, _, rfl, _⟩ := h
    rfl
  obtain ⟨p, dx, sa, me, cnt, fst, stt, stp, hs, ss, S, rfl, ⟨stpV, hnd, knw, dsk, sett, tas, R⟩, lS, lO, q1, q2⟩ := h
  refine ⟨_, (pss_cons (ps_set (i := 1) sc_Voter_free_set.nd rfl (Or.inr rfl) (pe_callB call_len_seq (by rfl) T.len (by decide +kernel) (pa_cons (pe_fld (pv 0) (by rfl)) pa_nil)))
    (pss_cons (ps_for PassesOwn.never rfl (pi_list (pe_lc (own := [("step", 3)]) (g := gName 3) (tt := tYes) (by rfl) sc_Voter_free_set.nd (pi_range1 (by rfl) T.range (pa_cons (pv 1) pa_nil)) (blkOk_by (N := ["self", "many", "number", "step", "seat"]) (sc := defScope s_Voter_free_set) (by decide +kernel)) (fun _ _ _ _ _ => pg_name (i := 3) sc_Voter_free_set.nd rfl (Or.inl rfl)) (fun _ _ _ _ _ => pts_nil) (fun _ _ _ _ _ => (pe_op op_mod (pe_op op_add (pe_fldK K (pv 0)) (pv 3)) (pv 1))))) (pg_name (i := 2) sc_Voter_free_set.nd rfl (Or.inl rfl))
    (pss_one (ps_if (pt_not (pt_val (pe_callB (cr_any (by rfl)) (by rfl) T.any (by decide +kernel) (pa_cons (pe_lc (own := [("seat", 4)]) (g := gName 4) (tt := tYes) (by rfl) sc_Voter_free_set.nd (pi_tup (pe_ix ix_list (pe_fld (pv 0) (by rfl)) (pv 2) (fun _ _ => rfl))) (blkOk_by (N := ["self", "many", "number", "step", "seat"]) (sc := defScope s_Voter_free_set) (by decide +kernel)) (fun _ _ _ _ _ => pg_name (i := 4) sc_Voter_free_set.nd rfl (Or.inl rfl)) (fun _ _ _ _ _ => pts_nil) (fun _ _ _ _ _ => (pe_cmpR (u_inK K) (pv 4) (pe_fldK K (pv 0)) (by rfl)))) pa_nil))))
    (pss_one (ps_ret (pv 2)))
    pss_nil)))
    (pss_one (ps_ret pe_non)))), ?_⟩
  have lt : (tas.map V.ref).length = S.length := by rw [List.length_map]; exact R.ht.1
  refine ⟨_, rfl, p, C, dx, _, _, rfl, R.hp, VT.cl, VT.sets, voF_sets _ _ _ _ _ _ _ _ _ _ _, sa, _, rfl, .inl (SqL.of R.hs), ?_⟩
  rw [lt]
  refine ⟨_, rfl, _, rfl, by omega, by omega, fun D hD => ?_⟩
  refine lc_range (lo := 0) (n := ((S.length : Int)).toNat) (fun i G => Same H G ∧ ∃ ns : List Int, ns.length = i ∧ G D = some (.lst (ns.map V.int)) ∧ (0 < i → ns[0]? = some (fst % (S.length : Int)))) ⟨same_upd hD, [], rfl, upd_same, fun h => absurd h (Nat.lt_irrefl _)⟩ ?_ ?_
  · rintro i G hi ⟨sG, ns, ln, kD, h0⟩
    have R1 := R.same sG
    refine ⟨rfl, lc_yes ?_⟩
    refine ⟨_, rfl, p, C, dx, _, _, rfl, R1.hp, VT.cl, VT.first, voF_fst _ _ _ _ _ _ _ _ _ _ _, _, rfl, _, _, rfl, rfl, _, rfl, _, _, rfl, rfl, (by show (0 : Int) < (S.length : Int); omega), ?_⟩
    refine ⟨_, kD, ?_, fun c o e => ?_, ns ++ [(fst + (0 + (i : Int))) % (S.length : Int)], by rw [List.length_append, ln]; rfl, by rw [upd_same, List.map_append]; rfl, fun _ => ?_⟩
    · rw [List.length_map]
      exact Nat.lt_of_lt_of_le (show ns.length < 2000 by omega) (by decide)
    · rw [upd_ne (ne_of_none e hD)]
      exact sG _ _ e
    · rcases Nat.eq_zero_or_pos i with z | z
      · subst z
        rw [List.getElem?_append_right (by omega), ln]
        show some ((fst + (0 + 0)) % (S.length : Int)) = _
        rw [Int.add_zero, Int.add_zero]
      · rw [List.getElem?_append_left (by omega)]
        exact h0 z
  rintro G ⟨sG, ns, ln, kD, h0⟩
  have R1 := R.same sG
  refine ⟨D, rfl, ⟨_, SqL.of kD⟩, ?_⟩
  refine for_list (K := K) (a := D) (xs := ns.map V.int) (fun i σ G' => G' = G ∧ i = 0 ∧ ∃ z : Option V, σ = [some (V.ref p), some (V.int (S.length : Int)), z, none, none]) ⟨rfl, rfl, _, rfl⟩ (fun i σ G' _ h => by rw [h.1]; exact SqL.of kD) ?_ ?_
  · rintro i x σ G' hx ⟨rfl, rfl, z, rfl⟩
    have pos : 0 < ns.length := by
      have := (List.getElem?_eq_some_iff.mp hx).1
      rwa [List.length_map] at this
    have n0 := h0 (by omega)
    rw [List.getElem?_map, n0] at hx
    cases hx
    have pS : 0 < S.length := by omega
    have m0 := Int.emod_nonneg fst (show (S.length : Int) ≠ 0 by omega)
    have m1 := Int.emod_lt_of_pos fst (show 0 < (S.length : Int) by omega)
    obtain ⟨j, ej⟩ : ∃ j : Nat, fst % (S.length : Int) = (j : Int) := ⟨(fst % (S.length : Int)).toNat, by omega⟩
    have jl : j < S.length := by omega
    have jt : j < tas.length := by rw [R.ht.1]; exact jl
    have qt : SqT K G' tas[j] (S[j].map V.int) := R1.ht.2 j _ _ (List.getElem?_eq_getElem jt) (List.getElem?_eq_getElem jl)
    rw [ej] at q2 ⊢
    have at_ : atI (tas.map V.ref) (j : Int) = some (.ref tas[j]) := atI_nat (by rw [List.getElem?_map, List.getElem?_eq_getElem jt]; rfl)
    refine ⟨_, rfl, p, C, dx, _, _, rfl, R1.hp, VT.cl, VT.sets, voF_sets _ _ _ _ _ _ _ _ _ _ _, _, rfl, sa, _, _, _, rfl, rfl, SqL.of R1.hs, at_, tas[j], rfl, ⟨_, qt⟩, fun D2 hD2 => ?_⟩
    refine lc_tup (K := K) (a := tas[j]) (xs := S[j].map V.int) (fun i G2 => Same G' G2 ∧ G2 D2 = some (.lst ((List.replicate i false).map V.bl))) ⟨same_upd hD2, upd_same⟩ (fun i G2 _ h => sqt_same h.1 qt) ?_ ?_
    · rintro i x G2 hx2 ⟨s2, kD2⟩
      have R2 := R1.same s2
      have li := (List.getElem?_eq_some_iff.mp hx2).1
      rw [List.length_map] at li
      have := lO _ (List.getElem_mem jl)
      obtain ⟨k, rfl⟩ : ∃ k : Int, x = .int k := by
        rw [List.getElem?_map, List.getElem?_eq_getElem li] at hx2
        exact ⟨_, (Option.some.inj hx2).symm⟩
      refine ⟨rfl, lc_yes ?_⟩
      refine ⟨_, rfl, _, rfl, p, C, dx, _, _, rfl, R2.hp, VT.cl, VT.known, voF_knw _ _ _ _ _ _ _ _ _ _ _, .inl ⟨knw, _, rfl, .inr R2.hk, rfl, rfl, ?_⟩⟩
      refine ⟨_, kD2, ?_, fun c o e => ?_, ?_⟩
      · rw [List.length_map, List.length_replicate]
        exact Nat.lt_of_lt_of_le (show i < 2000 by omega) (by decide)
      · rw [upd_ne (ne_of_none e hD2)]
        exact s2 _ _ e
      · rw [List.replicate_succ', List.map_append]
        exact upd_same
    rintro G2 ⟨s2, kD2⟩
    refine ⟨D2, _, rfl, SqL.of kD2, _, rfl, ?_⟩
    refine iteT' (by rw [List.any_replicate]; simp) ?_
    exact ⟨_, rfl, q2 (fun z => by rw [z] at pS; exact absurd pS (Nat.lt_irrefl _)) _ (sG.trans s2)⟩
  · rintro σ G' ⟨rfl, e0, z, rfl⟩
    have : S = [] := by
      rw [List.length_map] at e0
      exact List.eq_nil_of_length_eq_zero (by omega)
    exact q1 this _ sG
end

end G0
namespace G0
open PySem PySem.Spec PyProof.Rows L2 NdefX ClX
section
variable {P : Program} {w : World} {K : PySem.W.Frag} {mg : Str → Option Value} {base : Heap} {C f : Addr} {fd : FuncData}
section
variable {H H' : Hp} {p dx sa q : Addr} {me cnt fst : Int} {stt : Str} {stp : Option Int} {hs ss : List Int} {S : List (List Int)} {stpV : V} {hnd knw dsk sett : Addr} {tas : List Addr}
theorem stp_mut {o : HO} (hq : H q = some o) (no : (∀ xs, o ≠ .tup xs) ∧ ∀ u xs, o ≠ .frz u xs) (c : Chg q H H') {v : V} (h : Dp K H v (stpD me stp)) : Dp K H' v (stpD me stp) := by
  cases stp with
  | none => cases h; exact .non
  | some k =>
    cases h with
    | tup hs ha =>
      cases ha with
      | cons h1 h2 =>
        cases h1
        cases h2 with
        | cons h1 h2 =>
          cases h1
          cases h2 with
          | cons h1 h2 =>
            cases h1
            cases h2
            exact .tup (sqt_mut hq no c hs) (.cons (.int _) (.cons (.int _) (.cons (.int _) .nil)))
theorem stp_at {k : Int} {v : V} (h : Dp K H v (stpD me (some k))) : ∃ t, v = .ref t ∧ SqT K H t [.int k, .int me, .int 0] := by
  cases h with
  | tup hs ha =>
    cases ha with
    | cons h1 h2 =>
      cases h1
      cases h2 with
      | cons h1 h2 =>
        cases h1
        cases h2 with
        | cons h1 h2 =>
          cases h1
          cases h2
          exact ⟨_, rfl, hs⟩
theorem dp_stp {t : Addr} {k : Int} (h : SqT K H t [.int k, .int me, .int 0]) : Dp K H (.ref t) (stpD me (some k)) := .tup h (.cons (.int _) (.cons (.int _) (.cons (.int _) .nil)))
theorem ins_no {D d : Addr} {fs : List (Str × V)} : (∀ xs, (HO.ins D d fs) ≠ .tup xs) ∧ ∀ u xs, (HO.ins D d fs) ≠ .frz u xs := ⟨(fun _ z => nomatch z), (fun _ _ z => nomatch z)⟩
theorem VoR.chg (R : VoR K H C p dx sa me stt cnt stp hs S fst ss stpV hnd knw dsk sett tas) (c : Chg p H H') : SqT K H' hnd (hs.map V.int) ∧ SqT K H' knw [] ∧ H' sa = some (.lst (tas.map V.ref)) ∧ Tups K H' tas S ∧ SqT K H' sett (ss.map V.int) ∧ Dp K H' stpV (stpD me stp) :=
  ⟨sqt_mut R.hp ins_no c R.hh, sqt_mut R.hp ins_no c R.hk, c _ _ (ne_of R.hs R.hp (by intro z; cases z)) R.hs, ⟨R.ht.1, fun i t one h1 h2 => sqt_mut R.hp ins_no c (R.ht.2 i t one h1 h2)⟩, sqt_mut R.hp ins_no c R.hss, stp_mut R.hp ins_no c R.hst⟩
theorem VoR.put {cnt' : Int} {stt' : Str} {stp' : Option Int} {hs' ss' : List Int} {stpV' : V} {hnd' sett' : Addr} (R : VoR K H C p dx sa me stt cnt stp hs S fst ss stpV hnd knw dsk sett tas) (c : Chg p H H')
    (hp' : H' p = some (.ins C dx (voF me stt' false cnt' stpV' hnd' knw dsk sa fst sett'))) (hst' : Dp K H' stpV' (stpD me stp')) (hh' : SqT K H' hnd' (hs'.map V.int)) (hss' : SqT K H' sett' (ss'.map V.int)) : VoR K H' C p dx sa me stt' cnt' stp' hs' S fst ss' stpV' hnd' knw dsk sett' tas := by
  obtain ⟨_, c2, c3, c4, _, _⟩ := R.chg c
  exact ⟨hp', hst', hh', c2, c3, c4, hss'⟩
theorem VoR.ex (R : VoR K H C p dx sa me stt cnt stp hs S fst ss stpV hnd knw dsk sett tas) : VoAt K H C p dx sa me stt cnt stp hs S fst ss := ⟨_, _, _, _, _, _, R⟩
end
def sendD (z : Str) (c s : Int) : PyData := .tuple [.int s, .tuple [.str z, .int c, .int 0]]
theorem noLs_send (z : Str) (c : Int) : ∀ ks : List Int, noLs (ks.map (sendD z c)) = true
  | [] => rfl
  | k :: ks => by
    have ih := noLs_send z c ks
    simp only [List.map_cons, noLs, sendD, noL, Bool.true_and]
    exact ih
theorem dp_send {H : Hp} {t t1 : Addr} {z : Str} {c k : Int} (h1 : SqT K H t [.int k, .ref t1]) (h2 : SqT K H t1 [.str z, .int c, .int 0]) : Dp K H (.ref t) (sendD z c k) :=
  .tup h1 (.cons (.int k) (.cons (.tup h2 (.cons (.str z) (.cons (.int c) (.cons (.int 0) .nil)))) .nil))
/-! ### wanting a set -/
def spWant (K : PySem.W.Frag) (C : Addr) : Sp := fun vs H Q _ => ∃ (p dx sa t : Addr) (me cnt fst c : Int) (stt : Str) (stp : Option Int) (hs ss one : List Int) (S : List (List Int)) (j : Nat), vs = [.ref p, .int (j : Int), .ref t] ∧ VoAt K H C p dx sa me stt cnt stp hs S fst ss ∧ S[j]? = some one ∧ one.length ≤ 1000 ∧
  SqT K H t [.int c, .int me, .int 0] ∧ ∀ l zs H', H l = none → Chg p H H' → VoAt K H' C p dx sa me stt cnt (some c) [] S fst one → H' l = some (.lst zs) → DpAll K H' zs (one.map (sendD "ask" c)) → Q (.ref l) H'
theorem sc_Voter_want : FnScope ["self", "number", "stamp", "seat"] ["self", "number", "stamp"] (defScope s_Voter_want) :=
  ⟨rfl, rfl, rfl, by decide +kernel, rfl, by decide +kernel, by decide +kernel⟩
theorem ok_want (F : Fun K "_want" "Voter._want" s_Voter_want f fd) (T : BlV mg) (VT : VoT K C) : FnOk P w K mg base CX0 1 f fd ["self", "number", "stamp"] (spWant K C) := by
  refine F.ok sc_Voter_want (fun vs H Q E h => ?_) (fun cdv A outer s H vs Q E hr h => ?_)
  · obtain ⟨p, _, _, _, _, _, _, _, _, _, _, _, _, _, _, rfl, _⟩ := h
    rfl
  obtain ⟨p, dx, sa, t, me, cnt, fst, c, stt, stp, hs, ss, one, S, j, rfl, ⟨stpV, hnd, knw, dsk, sett, tas, R⟩, hj, l1, ht, q⟩ := h
  refine ⟨_, (pss_cons (ps_fld (pv 0) (pe_ix ix_list (pe_fld (pv 0) (by rfl)) (pv 1) (fun _ _ => rfl)) rfl)
    (pss_cons (ps_fld (pv 0) (pv 2) rfl)
    (pss_cons (ps_fld (pv 0) (pe_tup pa_nil) rfl)
    (pss_one (ps_ret (pe_lc (own := [("seat", 3)]) (g := gName 3) (tt := tYes) (by rfl) sc_Voter_want.nd (pi_tup (pe_fld (pv 0) (by rfl))) (blkOk_by (N := ["self", "number", "stamp", "seat"]) (sc := defScope s_Voter_want) (by decide +kernel)) (fun _ _ _ _ _ => pg_name (i := 3) sc_Voter_want.nd rfl (Or.inl rfl)) (fun _ _ _ _ _ => pts_nil) (fun _ _ _ _ _ => (pe_tup (pa_cons (pv 3) (pa_cons (pe_tup (pa_cons pe_str (pa_cons (pe_ix (ix_tupK K) (pv 2) pe_int (fun _ _ => rfl)) (pa_cons (pe_ix (ix_tupK K) (pv 2) pe_int (fun _ _ => rfl)) pa_nil)))) pa_nil)))))))))), ?_⟩
  have jl := (List.getElem?_eq_some_iff.mp hj).1
  have jt : j < tas.length := by rw [R.ht.1]; exact jl
  obtain ⟨ta, eta⟩ : ∃ ta, tas[j]? = some ta := ⟨_, List.getElem?_eq_getElem jt⟩
  have qt := R.ht.2 j ta one eta hj
  have at_ : atI (tas.map V.ref) (j : Int) = some (.ref ta) := atI_nat (by rw [List.getElem?_map, eta]; rfl)
  refine ⟨_, rfl, p, C, dx, _, _, rfl, R.hp, VT.cl, VT.sets, voF_sets _ _ _ _ _ _ _ _ _ _ _, _, rfl, sa, _, _, _, rfl, rfl, SqL.of R.hs, at_, _, rfl, p, C, dx, _, rfl, R.hp, VT.cl, VT.set, (by show 11 < 1000; decide), ?_⟩
  rw [voF_put_sett]
  refine ⟨_, rfl, _, rfl, p, C, dx, _, rfl, upd_same, VT.cl, VT.stamp, (by show 11 < 1000; decide), ?_⟩
  rw [upd_upd, voF_put_stp]
  obtain ⟨H1, e1⟩ : ∃ H1, H1 = upd H p (.ins C dx (voF me stt false cnt (.ref t) hnd knw dsk sa fst ta)) := ⟨_, rfl⟩
  have c1 : Chg p H H1 := by rw [e1]; exact Chg.self
  have hp1 : H1 p = some (.ins C dx (voF me stt false cnt (.ref t) hnd knw dsk sa fst ta)) := by rw [e1]; exact upd_same
  rw [← e1]
  refine ⟨Nat.zero_le _, fun e he => ?_⟩
  have s2 := same_upd (o := .tup []) he
  refine ⟨_, rfl, p, C, dx, _, rfl, s2 _ _ hp1, VT.cl, VT.hand, (by show 11 < 1000; decide), ?_⟩
  rw [voF_put_hnd]
  obtain ⟨H2, e2⟩ : ∃ H2, H2 = upd (upd H1 e (.tup [])) p (.ins C dx (voF me stt false cnt (.ref t) e knw dsk sa fst ta)) := ⟨_, rfl⟩
  have pe : e ≠ p := (ne_of_none hp1 he).symm
  have c2 : Chg p H H2 := by rw [e2]; exact (c1.trans (Chg.same s2)).trans Chg.self
  have hp2 : H2 p = some (.ins C dx (voF me stt false cnt (.ref t) e knw dsk sa fst ta)) := by rw [e2]; exact upd_same
  have he2 : H2 e = some (.tup []) := by rw [e2, upd_ne pe]; exact upd_same
  rw [← e2]
  have ht2 := sqt_mut R.hp ins_no c2 ht
  have qt2 := sqt_mut R.hp ins_no c2 qt
  have R2 := R.put c2 hp2 (dp_stp ht2) (hs' := []) (SqT.of he2) qt2
  refine ⟨_, rfl, p, C, dx, _, _, rfl, hp2, VT.cl, VT.set, voF_sett _ _ _ _ _ _ _ _ _ _ _, ta, rfl, ⟨_, qt2⟩, fun D hD => ?_⟩
  refine lc_tup (K := K) (a := ta) (xs := one.map V.int) (fun i G => Same H2 G ∧ ∃ zs, zs.length = i ∧ G D = some (.lst zs) ∧ DpAll K G zs ((one.take i).map (sendD "ask" c))) ⟨same_upd hD, [], rfl, upd_same, .nil⟩ (fun i G _ h => sqt_same h.1 qt2) ?_ ?_
  · rintro i x G hx ⟨sG, zs, lz, kD, dz⟩
    obtain ⟨k, hk, rfl⟩ : ∃ k : Int, one[i]? = some k ∧ x = .int k := by
      rw [List.getElem?_map] at hx
      cases z : one[i]? with
      | none => rw [z] at hx; cases hx
      | some k => rw [z] at hx; exact ⟨k, rfl, (Option.some.inj hx).symm⟩
    have li := (List.getElem?_eq_some_iff.mp hk).1
    have htG := sqt_same sG ht2
    refine ⟨rfl, lc_yes ?_⟩
    refine ⟨_, rfl, _, rfl, t, _, _, _, rfl, rfl, htG, atI_nat (j := 0) rfl, _, rfl, t, _, _, _, rfl, rfl, htG, atI_nat (j := 2) rfl, by show 3 ≤ sizeLine; decide, fun u hu => ?_⟩
    have s3 := same_upd (o := .tup [.str "ask", .int c, .int 0]) hu
    refine ⟨by show 2 ≤ sizeLine; decide, fun u2 hu2 => ?_⟩
    have s4 := same_upd (o := .tup [.int k, .ref u]) hu2
    have kD4 := s4 _ _ (s3 _ _ kD)
    refine ⟨_, kD4, Nat.lt_of_lt_of_le (show zs.length < 2000 by omega) (by decide), fun b o e => ?_, zs ++ [.ref u2], by rw [List.length_append, lz]; rfl, upd_same, ?_⟩
    · rw [upd_ne (ne_of_none e hD)]
      exact s4 _ _ (s3 _ _ (sG _ _ e))
    · refine dps_chg ⟨_, kD4⟩ Chg.self _ _ (noLs_send _ _ _) ?_
      rw [List.take_add_one, hk, List.map_append]
      exact dps_app (dps_same (s3.trans s4) _ _ dz) (.cons (dp_send (SqT.of upd_same) (SqT.of (s4 _ _ upd_same))) .nil)
  rintro G ⟨sG, zs, lz, kD, dz⟩
  rw [List.length_map, List.take_length] at dz
  exact q D zs G (c2.back hD (fun z => by rw [z, hp2] at hD; cases hD)) (c2.trans (Chg.same sG)) (R2.same sG).ex kD dz
end

end G0
namespace G0
open PySem PySem.Spec PyProof.Rows L2 NdefX ClX
section
variable {P : Program} {w : World} {K : PySem.W.Frag} {mg : Str → Option Value} {base : Heap} {C f : Addr} {fd : FuncData}
mutual
/-- data without lists stays where what is no tuple changes -/
theorem dp_mut {H H' : Hp} {q : Addr} {o : HO} (hq : H q = some o) (no : (∀ xs, o ≠ .tup xs) ∧ ∀ u xs, o ≠ .frz u xs) (c : Chg q H H') : ∀ (d : PyData) (v : V), noL d = true → Dp K H v d → Dp K H' v d
  | .none, _, _, h => by cases h; exact .non
  | .bool _, _, _, h => by cases h; exact .bl _
  | .int _, _, _, h => by cases h; exact .int _
  | .str _, _, _, h => by cases h; exact .str _
  | .dict _, _, _, h => by cases h
  | .list ds, _, n, h => by simp [noL] at n
  | .tuple ds, _, n, h => by
    cases h with
    | tup hs ha => exact .tup (sqt_mut hq no c hs) (dps_mut hq no c ds _ (by simpa [noL] using n) ha)
theorem dps_mut {H H' : Hp} {q : Addr} {o : HO} (hq : H q = some o) (no : (∀ xs, o ≠ .tup xs) ∧ ∀ u xs, o ≠ .frz u xs) (c : Chg q H H') : ∀ (ds : List PyData) (vs : List V), noLs ds = true → DpAll K H vs ds → DpAll K H' vs ds
  | [], _, _, h => by cases h; exact .nil
  | d :: ds, _, n, h => by
    simp only [noLs, Bool.and_eq_true] at n
    cases h with
    | cons h1 h2 => exact .cons (dp_mut hq no c d _ n.1 h1) (dps_mut hq no c ds _ n.2 h2)
end
/-! ### done, out, leave -/
def spDoneV (K : PySem.W.Frag) (C : Addr) : Sp := fun vs H Q _ => ∃ (p dx sa : Addr) (me cnt fst c : Int) (stt : Str) (hs ss : List Int) (S : List (List Int)), vs = [.ref p] ∧ VoAt K H C p dx sa me stt cnt (some c) hs S fst ss ∧ ss.length ≤ 1000 ∧
  ∀ l zs H', H l = none → Same H H' → H' l = some (.lst zs) → DpAll K H' zs (ss.map (sendD "done" c)) → Q (.ref l) H'
theorem sc_Voter_done : FnScope ["self", "seat"] ["self"] (defScope s_Voter_done) :=
  ⟨rfl, rfl, rfl, by decide +kernel, rfl, by decide +kernel, by decide +kernel⟩
theorem ok_doneV (F : Fun K "_done" "Voter._done" s_Voter_done f fd) (T : BlV mg) (VT : VoT K C) : FnOk P w K mg base CX0 1 f fd ["self"] (spDoneV K C) := by
  refine F.ok sc_Voter_done (fun vs H Q E h => ?_) (fun cdv A outer s H vs Q E hr h => ?_)
  · obtain ⟨p, _, _, _, _, _, _, _, _, _, _, rfl, _⟩ := h
    rfl
  obtain ⟨p, dx, sa, me, cnt, fst, c, stt, hs, ss, S, rfl, ⟨stpV, hnd, knw, dsk, sett, tas, R⟩, l1, q⟩ := h
  refine ⟨_, (pss_one (ps_ret (pe_lc (own := [("seat", 1)]) (g := gName 1)  (by rfl) sc_Voter_done.nd (pi_tup (pe_fld (pv 0) (by rfl))) (blkOk_by (N := ["self", "seat"]) (sc := defScope s_Voter_done) (by decide +kernel)) (fun _ _ _ _ _ => pg_name (i := 1) sc_Voter_done.nd rfl (Or.inl rfl)) (fun _ _ _ _ _ => pts_one (pt_cmpR (u_notinK K) (pv 1) (pe_fldK K (pv 0)) (by rfl))) (fun _ _ _ _ _ => (pe_tup (pa_cons (pv 1) (pa_cons (pe_tup (pa_cons pe_str (pa_cons (pe_ix (ix_tupK K) (pe_fldK K (pv 0)) pe_int (fun _ _ => rfl)) (pa_cons (pe_ix (ix_tupK K) (pe_fldK K (pv 0)) pe_int (fun _ _ => rfl)) pa_nil)))) pa_nil))))))), ?_⟩
  obtain ⟨t, rfl, ht⟩ := stp_at R.hst
  refine ⟨_, rfl, p, C, dx, _, _, rfl, R.hp, VT.cl, VT.set, voF_sett _ _ _ _ _ _ _ _ _ _ _, sett, rfl, ⟨_, R.hss⟩, fun D hD => ?_⟩
  refine lc_tup (K := K) (a := sett) (xs := ss.map V.int) (fun i G => Same H G ∧ ∃ zs, zs.length = i ∧ G D = some (.lst zs) ∧ DpAll K G zs ((ss.take i).map (sendD "done" c))) ⟨same_upd hD, [], rfl, upd_same, .nil⟩ (fun i G _ h => sqt_same h.1 R.hss) ?_ ?_
  · rintro i x G hx ⟨sG, zs, lz, kD, dz⟩
    obtain ⟨k, hk, rfl⟩ : ∃ k : Int, ss[i]? = some k ∧ x = .int k := by
      rw [List.getElem?_map] at hx
      cases z : ss[i]? with
      | none => rw [z] at hx; cases hx
      | some k => rw [z] at hx; exact ⟨k, rfl, (Option.some.inj hx).symm⟩
    have li := (List.getElem?_eq_some_iff.mp hk).1
    have R1 := R.same sG
    have htG := sqt_same sG ht
    refine ⟨rfl, _, rfl, _, rfl, p, C, dx, _, _, rfl, R1.hp, VT.cl, VT.known, voF_knw _ _ _ _ _ _ _ _ _ _ _, .inl ⟨knw, _, rfl, .inr R1.hk, rfl, rfl, _, rfl, iteT' rfl ?_⟩⟩
    refine ⟨_, rfl, _, rfl, p, C, dx, _, _, rfl, R1.hp, VT.cl, VT.stamp, voF_stp _ _ _ _ _ _ _ _ _ _ _, t, _, _, _, rfl, rfl, htG, atI_nat (j := 0) rfl, _, rfl, p, C, dx, _, _, rfl, R1.hp, VT.cl, VT.stamp, voF_stp _ _ _ _ _ _ _ _ _ _ _, t, _, _, _, rfl, rfl, htG, atI_nat (j := 2) rfl, by show 3 ≤ sizeLine; decide, fun u hu => ?_⟩
    have s3 := same_upd (o := .tup [.str "done", .int c, .int 0]) hu
    refine ⟨by show 2 ≤ sizeLine; decide, fun u2 hu2 => ?_⟩
    have s4 := same_upd (o := .tup [.int k, .ref u]) hu2
    have kD4 := s4 _ _ (s3 _ _ kD)
    refine ⟨_, kD4, Nat.lt_of_lt_of_le (show zs.length < 2000 by omega) (by decide), fun b o e => ?_, zs ++ [.ref u2], by rw [List.length_append, lz]; rfl, upd_same, ?_⟩
    · rw [upd_ne (ne_of_none e hD)]
      exact s4 _ _ (s3 _ _ (sG _ _ e))
    · refine dps_chg ⟨_, kD4⟩ Chg.self _ _ (noLs_send _ _ _) ?_
      rw [List.take_add_one, hk, List.map_append]
      exact dps_app (dps_same (s3.trans s4) _ _ dz) (.cons (dp_send (SqT.of upd_same) (SqT.of (s4 _ _ upd_same))) .nil)
  rintro G ⟨sG, zs, lz, kD, dz⟩
  rw [List.length_map, List.take_length] at dz
  exact q D zs G hD sG kD dz
def spBeOut (K : PySem.W.Frag) (C : Addr) : Sp := fun vs H Q _ => ∃ (p dx sa : Addr) (me cnt fst : Int) (stt : Str) (stp : Option Int) (hs ss : List Int) (S : List (List Int)), vs = [.ref p] ∧ VoAt K H C p dx sa me stt cnt stp hs S fst ss ∧
  ∀ H', Chg p H H' → VoAt K H' C p dx sa me "out" cnt none [] S fst [] → Q .non H'
theorem sc_Voter_be_out : FnScope ["self"] ["self"] (defScope s_Voter_be_out) :=
  ⟨rfl, rfl, rfl, by decide +kernel, rfl, by decide +kernel, by decide +kernel⟩
theorem ok_beout (F : Fun K "_be_out" "Voter._be_out" s_Voter_be_out f fd) (VT : VoT K C) : FnOk P w K mg base CX0 1 f fd ["self"] (spBeOut K C) := by
  refine F.ok sc_Voter_be_out (fun vs H Q E h => ?_) (fun cdv A outer s H vs Q E hr h => ?_)
  · obtain ⟨p, _, _, _, _, _, _, _, _, _, _, rfl, _⟩ := h
    rfl
  obtain ⟨p, dx, sa, me, cnt, fst, stt, stp, hs, ss, S, rfl, ⟨stpV, hnd, knw, dsk, sett, tas, R⟩, q⟩ := h
  refine ⟨_, (pss_cons (ps_fld (pv 0) pe_str rfl)
    (pss_cons (ps_fld (pv 0) pe_non rfl)
    (pss_cons (ps_fld (pv 0) (pe_tup pa_nil) rfl)
    (pss_one (ps_fld (pv 0) (pe_tup pa_nil) rfl))))), ?_⟩
  refine ⟨_, rfl, p, C, dx, _, rfl, R.hp, VT.cl, VT.state, (by show 11 < 1000; decide), ?_⟩
  rw [voF_put_stt]
  refine ⟨_, rfl, p, C, dx, _, rfl, upd_same, VT.cl, VT.stamp, (by show 11 < 1000; decide), ?_⟩
  rw [upd_upd, voF_put_stp]
  obtain ⟨H1, e1⟩ : ∃ H1, H1 = upd H p (.ins C dx (voF me "out" false cnt .non hnd knw dsk sa fst sett)) := ⟨_, rfl⟩
  have c1 : Chg p H H1 := by rw [e1]; exact Chg.self
  have hp1 : H1 p = some (.ins C dx (voF me "out" false cnt .non hnd knw dsk sa fst sett)) := by rw [e1]; exact upd_same
  rw [← e1]
  refine ⟨Nat.zero_le _, fun e he => ?_⟩
  have s2 := same_upd (o := .tup []) he
  refine ⟨_, rfl, p, C, dx, _, rfl, s2 _ _ hp1, VT.cl, VT.hand, (by show 11 < 1000; decide), ?_⟩
  rw [voF_put_hnd]
  obtain ⟨H2, e2⟩ : ∃ H2, H2 = upd (upd H1 e (.tup [])) p (.ins C dx (voF me "out" false cnt .non e knw dsk sa fst sett)) := ⟨_, rfl⟩
  have pe : e ≠ p := (ne_of_none hp1 he).symm
  have c2 : Chg p H H2 := by rw [e2]; exact (c1.trans (Chg.same s2)).trans Chg.self
  have hp2 : H2 p = some (.ins C dx (voF me "out" false cnt .non e knw dsk sa fst sett)) := by rw [e2]; exact upd_same
  have he2 : H2 e = some (.tup []) := by rw [e2, upd_ne pe]; exact upd_same
  rw [← e2]
  refine ⟨Nat.zero_le _, fun e3 he3 => ?_⟩
  have s3 := same_upd (o := .tup []) he3
  refine ⟨_, rfl, p, C, dx, _, rfl, s3 _ _ hp2, VT.cl, VT.set, (by show 11 < 1000; decide), ?_⟩
  rw [voF_put_sett]
  have pe3 : e3 ≠ p := (ne_of_none hp2 he3).symm
  have c3 : Chg p H (upd (upd H2 e3 (.tup [])) p (.ins C dx (voF me "out" false cnt .non e knw dsk sa fst e3))) := (c2.trans (Chg.same s3)).trans Chg.self
  refine q _ c3 (R.put (hs' := []) (ss' := []) (stp' := none) c3 upd_same .non (SqT.of ?_) (SqT.of ?_)).ex
  · rw [upd_ne pe, upd_ne (ne_of_none he2 he3)]
    exact he2
  · rw [upd_ne pe3]
    exact upd_same
def spLeaveV (K : PySem.W.Frag) (C : Addr) : Sp := fun vs H Q _ => ∃ (p dx sa : Addr) (me cnt fst c : Int) (stt : Str) (hs ss : List Int) (S : List (List Int)), vs = [.ref p] ∧ VoAt K H C p dx sa me stt cnt (some c) hs S fst ss ∧ ss.length ≤ 1000 ∧
  ∀ l zs H', H l = none → Chg p H H' → VoAt K H' C p dx sa me "out" cnt none [] S fst [] → H' l = some (.lst zs) → DpAll K H' zs (ss.map (sendD "done" c)) → Q (.ref l) H'
theorem sc_Voter_leave : FnScope ["self", "sends"] ["self"] (defScope s_Voter_leave) :=
  ⟨rfl, rfl, rfl, by decide +kernel, rfl, by decide +kernel, by decide +kernel⟩
theorem ok_leaveV (F : Fun K "leave" "Voter.leave" s_Voter_leave f fd) (VT : VoT K C) (MD : Me P w K mg base CX0 C "_done" 1 ["self"] (spDoneV K C)) (MB : Me P w K mg base CX0 C "_be_out" 1 ["self"] (spBeOut K C)) : FnOk P w K mg base CX0 2 f fd ["self"] (spLeaveV K C) := by
  obtain ⟨fD, fdD, GD, bD, mD⟩ := MD
  obtain ⟨fB, fdB, GB, bB, mB⟩ := MB
  refine F.ok sc_Voter_leave (fun vs H Q E h => ?_) (fun cdv A outer s H vs Q E hr h => ?_)
  · obtain ⟨p, _, _, _, _, _, _, _, _, _, _, rfl, _⟩ := h
    rfl
  obtain ⟨p, dx, sa, me, cnt, fst, c, stt, hs, ss, S, rfl, VA, l1, q⟩ := h
  obtain ⟨stpV, hnd, knw, dsk, sett, tas, R⟩ := id VA
  refine ⟨_, (pss_cons (ps_set (i := 1) sc_Voter_leave.nd rfl (Or.inl rfl) (pe_meth0 (pv 0) VT.cl mD GD hr bD .nil pass0))
    (pss_cons (ps_expr (pe_meth0 (pv 0) VT.cl mB GB hr bB .nil pass0))
    (pss_one (ps_ret (pv 1))))), ?_⟩
  refine ⟨_, rfl, p, dx, _, rfl, R.hp, (voF_no _ _ _ _ _ _ _ _ _ _ _ (by decide +kernel) (by decide +kernel) (by decide +kernel) (by decide +kernel) (by decide +kernel) (by decide +kernel) (by decide +kernel) (by decide +kernel) (by decide +kernel) (by decide +kernel) (by decide +kernel)), p, dx, sa, me, cnt, fst, c, stt, hs, ss, S, rfl, VA, l1, fun l zs H1 hl s1 kl dz => ?_⟩
  have R1 := R.same s1
  refine ⟨_, rfl, p, dx, _, rfl, R1.hp, (voF_no _ _ _ _ _ _ _ _ _ _ _ (by decide +kernel) (by decide +kernel) (by decide +kernel) (by decide +kernel) (by decide +kernel) (by decide +kernel) (by decide +kernel) (by decide +kernel) (by decide +kernel) (by decide +kernel) (by decide +kernel)), p, dx, sa, me, cnt, fst, stt, some c, hs, ss, S, rfl, R1.ex, fun H2 c2 V2 => ?_⟩
  have lp : l ≠ p := fun z => by rw [z, R.hp] at hl; cases hl
  exact ⟨_, rfl, q l zs H2 hl ((Chg.same s1).trans c2) V2 (c2 _ _ lp kl) (dps_mut R1.hp ins_no c2 _ _ (noLs_send _ _ _) dz)⟩
end

end G0
namespace G0
open PySem PySem.Spec PyProof.Rows L2 NdefX ClX
section
variable {P : Program} {w : World} {K : PySem.W.Frag} {mg : Str → Option Value} {base : Heap} {C CB f : Addr} {fd : FuncData}
/-! ### asking -/
def spAskV (K : PySem.W.Frag) (C CB : Addr) : Sp := fun vs H Q E => ∃ (p dx sa : Addr) (me cnt fst : Int) (stt : Str) (stp : Option Int) (hs ss : List Int) (S : List (List Int)), vs = [.ref p] ∧ VoAt K H C p dx sa me stt cnt stp hs S fst ss ∧ S.length ≤ 1000 ∧ (∀ one ∈ S, one.length ≤ 1000) ∧
  (S = [] → ∀ d H', Same H H' → H' d = none → E (.ref CB) (some d) (upd H' d (.xd [("seat", .int me)]))) ∧
  (∀ (j : Nat) one, fst % (S.length : Int) = (j : Int) → S[j]? = some one → ∀ l zs H', H l = none → Chg p H H' → VoAt K H' C p dx sa me "asking" (cnt + 1) (some (cnt + 1)) [] S fst one → H' l = some (.lst zs) → DpAll K H' zs (one.map (sendD "ask" (cnt + 1))) → Q (.ref l) H')
theorem sc_Voter_ask : FnScope ["self", "number"] ["self"] (defScope s_Voter_ask) :=
  ⟨rfl, rfl, rfl, by decide +kernel, rfl, by decide +kernel, by decide +kernel⟩
theorem ok_askV (F : Fun K "ask" "Voter.ask" s_Voter_ask f fd) (VT : VoT K C) (XB : XT P w K mg base CB "Barred" "seat") (MF : Me P w K mg base CX0 C "free_set" 2 ["self"] (spFreeSet K C)) (MW : Me P w K mg base CX0 C "_want" 1 ["self", "number", "stamp"] (spWant K C)) :
    FnOk P w K mg base (L2.CX P w) 3 f fd ["self"] (spAskV K C CB) := by
  obtain ⟨fF, fdF, GF, bF, mF⟩ := MF
  obtain ⟨fW, fdW, GW, bW, mW⟩ := MW
  obtain ⟨fN, fdN, iN, tN, GN, bN⟩ := XB.init
  refine F.okX sc_Voter_ask (fun vs H Q E h => ?_) (fun cdv A outer s H vs Q E hr h => ?_)
  · obtain ⟨p, _, _, _, _, _, _, _, _, _, _, rfl, _⟩ := h
    rfl
  obtain ⟨p, dx, sa, me, cnt, fst, stt, stp, hs, ss, S, rfl, VA, lS, lO, q1, q2⟩ := h
  obtain ⟨stpV, hnd, knw, dsk, sett, tas, R⟩ := id VA
  have hr1 : Room 1 _ := hr.mono (by decide)
  refine ⟨_, (pss_cons (ps_set (i := 1) sc_Voter_ask.nd rfl (Or.inl rfl) (pe_meth0 (pv 0) VT.cl mF GF hr bF .nil pass0))
    (pss_cons (ps_if (pt_cmpR op_isN (pv 1) pe_non (nomark _))
    (pss_one (ps_raiseX XB.xc.T iN tN GN bN (hr.mono (by decide)) (by rfl) XB.g (by rfl) (takes_of rfl rfl rfl rfl) (pe_fld (pv 0) (by rfl))))
    pss_nil)
    (pss_cons (ps_fldaug (pv 0) pe_int in_add)
    (pss_cons (ps_fld (pv 0) pe_str rfl)
    (pss_one (ps_ret (pe_meth (pv 0) VT.cl mW GW hr1 bW .nil pass0 (pa_cons (pv 1) (pa_cons (pe_tup (pa_cons (pe_fld (pv 0) (by rfl)) (pa_cons (pe_fld (pv 0) (by rfl)) (pa_cons pe_int pa_nil)))) pa_nil))))))))), ?_⟩
  refine ⟨_, rfl, p, dx, _, rfl, R.hp, (voF_no _ _ _ _ _ _ _ _ _ _ _ (by decide +kernel) (by decide +kernel) (by decide +kernel) (by decide +kernel) (by decide +kernel) (by decide +kernel) (by decide +kernel) (by decide +kernel) (by decide +kernel) (by decide +kernel) (by decide +kernel)), p, dx, sa, me, cnt, fst, stt, stp, hs, ss, S, rfl, VA, lS, lO, fun e H1 s1 => ?_, fun e H1 s1 => ?_⟩
  · refine ⟨_, rfl, rfl, _, rfl, iteT' rfl ?_⟩
    exact ⟨_, rfl, p, C, dx, _, _, rfl, s1 _ _ R.hp, VT.cl, VT.me, voF_me _ _ _ _ _ _ _ _ _ _ _, xc_done fun d hd => q1 e d _ s1 hd⟩
  have pS : 0 < S.length := List.length_pos_iff.mpr e
  have m0 := Int.emod_nonneg fst (show (S.length : Int) ≠ 0 by omega)
  have m1 := Int.emod_lt_of_pos fst (show 0 < (S.length : Int) by omega)
  obtain ⟨j, ej⟩ : ∃ j : Nat, fst % (S.length : Int) = (j : Int) := ⟨(fst % (S.length : Int)).toNat, by omega⟩
  have jl : j < S.length := by omega
  have hj : S[j]? = some S[j] := List.getElem?_eq_getElem jl
  have R1 := R.same s1
  rw [ej]
  refine ⟨_, rfl, rfl, _, rfl, iteF' rfl ?_⟩
  refine ⟨_, rfl, p, C, dx, _, _, rfl, R1.hp, VT.cl, VT.count, voF_cnt _ _ _ _ _ _ _ _ _ _ _, _, _, rfl, rfl, dx, _, R1.hp, (by show 11 < 1000; decide), ?_⟩
  rw [voF_put_cnt]
  refine ⟨_, rfl, p, C, dx, _, rfl, upd_same, VT.cl, VT.state, (by show 11 < 1000; decide), ?_⟩
  rw [upd_upd, voF_put_stt]
  obtain ⟨H2, e2⟩ : ∃ H2, H2 = upd H1 p (.ins C dx (voF me "asking" false (cnt + 1) stpV hnd knw dsk sa fst sett)) := ⟨_, rfl⟩
  have c2 : Chg p H1 H2 := by rw [e2]; exact Chg.self
  have hp2 : H2 p = some (.ins C dx (voF me "asking" false (cnt + 1) stpV hnd knw dsk sa fst sett)) := by rw [e2]; exact upd_same
  rw [← e2]
  obtain ⟨d1, _, _, _, d5, d6⟩ := R1.chg c2
  have R2 := R1.put c2 hp2 d6 d1 d5
  refine ⟨_, rfl, p, dx, _, rfl, hp2, (voF_no _ _ _ _ _ _ _ _ _ _ _ (by decide +kernel) (by decide +kernel) (by decide +kernel) (by decide +kernel) (by decide +kernel) (by decide +kernel) (by decide +kernel) (by decide +kernel) (by decide +kernel) (by decide +kernel) (by decide +kernel)), ?_⟩
  refine ⟨_, rfl, _, rfl, p, C, dx, _, _, rfl, hp2, VT.cl, VT.count, voF_cnt _ _ _ _ _ _ _ _ _ _ _, _, rfl, p, C, dx, _, _, rfl, hp2, VT.cl, VT.me, voF_me _ _ _ _ _ _ _ _ _ _ _, by show 3 ≤ sizeLine; decide, fun t ht => ?_⟩
  have s3 := same_upd (o := .tup [.int (cnt + 1), .int me, .int 0]) ht
  refine ⟨p, dx, sa, t, me, cnt + 1, fst, cnt + 1, "asking", stp, hs, ss, S[j], S, j, rfl, (R2.same s3).ex, hj, lO _ (List.getElem_mem jl), SqT.of upd_same, fun l zs H3 hl c3 V3 kl dz => ?_⟩
  have cc := ((Chg.same s1).trans c2).trans (Chg.same s3)
  exact q2 j _ ej hj l zs H3 (cc.back hl (fun z => by rw [z, s3 _ _ hp2] at hl; cases hl)) (cc.trans c3) V3 kl dz
end

end G0
namespace G0
open PySem PySem.Spec PyProof.Rows L2 NdefX ClX
section
variable {P : Program} {w : World} {K : PySem.W.Frag} {mg : Str → Option Value} {base : Heap} {C f : Addr} {fd : FuncData}
/-! ### hearing -/
/-- any slice of a tuple -/
theorem sl_anyk {H : Hp} {a : Addr} {xs : List V} {lo hi : Option Int} {Q : VK} (h : SqT K H a xs) (q : ∀ r H', Same H H' → SqT K H' r (cutV xs lo hi) → Q (.ref r) H') : rSlA K (.ref a) lo hi H Q := by
  refine ⟨a, xs, rfl, h, fun ⟨e1, e2⟩ => ?_, fun _ r hr => q r _ (same_upd hr) (SqT.of upd_same)⟩
  refine q a H (Same.refl H) ?_
  unfold cutV
  rw [e1, e2, List.drop_zero, Nat.sub_zero, List.take_length]
  exact h
theorem sl_nonek {σ : L2.St} {H : Hp} {a : Addr} {xs : List V} {lo : Option Int} {Q : VK} (h : SqT K H a xs) (q : ∀ r H', Same H H' → SqT K H' r (cutV xs lo none) → Q (.ref r) H') :
    tNoPart σ H fun u H3 => rSlA K (.ref a) lo u H3 Q := sl_anyk h q
/-- any two tuples together -/
theorem cat_anyk {H : Hp} {a b : Addr} {xs ys : List V} {Q : VK} (h1 : SqT K H a xs) (h2 : SqT K H b ys) (l : xs.length + ys.length ≤ 10000)
    (q : ∀ r H', Same H H' → SqT K H' r (xs ++ ys) → Q (.ref r) H') : rCatA K (.ref a) (.ref b) H Q := by
  refine ⟨a, b, xs, ys, rfl, rfl, h1, h2, Nat.le_trans l (by decide), fun e => ?_, fun _ e => ?_, fun _ _ r hr => q r _ (same_upd hr) (SqT.of upd_same)⟩
  · subst e
    exact q b H (Same.refl H) h2
  · subst e
    exact q a H (Same.refl H) (by rw [List.append_nil]; exact h1)
theorem eqv_stp (me c : Int) (o : Option Int) : PyData.eqv (stpD me (some c)) (stpD me o) = decide (o = some c) := by
  cases o with
  | none => simp [stpD, PyData.eqv]
  | some d =>
    simp only [stpD, PyData.eqv, PyData.eqvAll]
    by_cases h : c = d
    · subst h; simp
    · have h' : ¬ d = c := fun z => h z.symm
      simp [h, h']
theorem shaped_stp (me : Int) (o : Option Int) : SeqAt.shaped (stpD me o) = true := by
  show ((stpD me o).canLay0 && decide ((stpD me o).depth ≤ 64)) = true
  cases o with
  | none => simp [stpD, PyData.canLay0, PyData.depth]
  | some c => simp [stpD, PyData.canLay0, PyData.canLayAll0, PyData.depth, PyData.depthAll]
def spHV (K : PySem.W.Frag) (C : Addr) : Sp := fun vs H Q _ => ∃ (p dx sa t : Addr) (me cnt fst c k c2 : Int) (hs ss : List Int) (S : List (List Int)), vs = [.ref p, .int k, .ref t, .int c2] ∧ VoAt K H C p dx sa me "asking" cnt (some c) hs S fst ss ∧ SqT K H t [.int c, .int me, .int 0] ∧ hs.length < 50 ∧ ss.length ≤ 1000 ∧
  ∀ (hs' : List Int) l H', hs'.Pairwise (· < ·) → (∀ x : Int, x ∈ hs' ↔ x ∈ hs ∨ x = k) → H l = none → Chg p H H' → H' l = some (.lst []) →
    VoAt K H' C p dx sa me (if (ss.all fun s => decide (s ∈ hs')) = true then "in" else "asking") (if c2 > cnt then c2 else cnt) (some c) hs' S fst ss → Q (.ref l) H'
theorem sc_Voter_hear_vote : FnScope ["self", "sender", "stamp", "count", "seat"] ["self", "sender", "stamp", "count"] (defScope s_Voter_hear_vote) :=
  ⟨rfl, rfl, rfl, by decide +kernel, rfl, by decide +kernel, by decide +kernel⟩
theorem ok_hv (F : Fun K "_hear_vote" "Voter._hear_vote" s_Voter_hear_vote f fd) (T : BlV mg) (VT : VoT K C) : FnOk P w K mg base CX0 1 f fd ["self", "sender", "stamp", "count"] (spHV K C) := by
  refine F.ok sc_Voter_hear_vote (fun vs H Q E h => ?_) (fun cdv A outer s H vs Q E hr h => ?_)
  · obtain ⟨p, _, _, _, _, _, _, _, _, _, _, _, _, rfl, _⟩ := h
    rfl
  obtain ⟨p, dx, sa, t, me, cnt, fst, c, k, c2, hs, ss, S, rfl, ⟨stpV, hnd, knw, dsk, sett, tas, R⟩, ht, lh, ls, q⟩ := h
  refine ⟨_, (pss_cons (ps_fld (pv 0) (pe_callB (call_max2 rfl) (by rfl) T.max (by decide +kernel) (pa_cons (pe_fld (pv 0) (by rfl)) (pa_cons (pv 3) pa_nil))) rfl)
    (pss_cons (ps_if (PW.pt (pw_and (pt_cmpR op_eq (pe_fld (pv 0) (by rfl)) pe_str (nomark _)) (pw_and1 (pt_cmpR (op_eqD (u64 hr)) (pv 2) (pe_fld (pv 0) (by rfl)) (nomark _)))))
    (pss_cons (ps_fld (pv 0) (pe_callTy call_tuple_of (by rfl) T.tuple (by decide +kernel) (pa_cons (pe_callB (cr_sortedSet (by rfl)) (by rfl) T.sorted (by decide +kernel) (pa_cons (pe_callTy (cr_setOfTI (by rfl)) (by rfl) T.set (by decide +kernel) (pa_cons (pe_op op_catA (pe_fld (pv 0) (by rfl)) (pe_tup (pa_cons (pv 1) pa_nil))) pa_nil)) pa_nil)) pa_nil)) rfl)
    (pss_one (ps_if (pt_val (pe_callB (cr_all (by rfl)) (by rfl) T.all (by decide +kernel) (pa_cons (pe_lc (own := [("seat", 4)]) (g := gName 4) (tt := tYes) (by rfl) sc_Voter_hear_vote.nd (pi_tup (pe_fld (pv 0) (by rfl))) (blkOk_by (N := ["self", "sender", "stamp", "count", "seat"]) (sc := defScope s_Voter_hear_vote) (by decide +kernel)) (fun _ _ _ _ _ => pg_name (i := 4) sc_Voter_hear_vote.nd rfl (Or.inl rfl)) (fun _ _ _ _ _ => pts_nil) (fun _ _ _ _ _ => (pe_cmpR (u_inK K) (pv 4) (pe_fldK K (pv 0)) (by rfl)))) pa_nil)))
    (pss_one (ps_fld (pv 0) pe_str rfl))
    pss_nil)))
    pss_nil)
    (pss_one (ps_ret (pe_lst pa_nil))))), ?_⟩
  refine ⟨_, rfl, p, C, dx, _, _, rfl, R.hp, VT.cl, VT.count, voF_cnt _ _ _ _ _ _ _ _ _ _ _, _, rfl, _, _, rfl, _, rfl, p, C, dx, _, rfl, R.hp, VT.cl, VT.count, (by show 11 < 1000; decide), ?_⟩
  rw [voF_put_cnt]
  obtain ⟨cn, ecn⟩ : ∃ cn, cn = if c2 > cnt then c2 else cnt := ⟨_, rfl⟩
  rw [← ecn] at q ⊢
  obtain ⟨H1, e1⟩ : ∃ H1, H1 = upd H p (.ins C dx (voF me "asking" false cn stpV hnd knw dsk sa fst sett)) := ⟨_, rfl⟩
  have c1 : Chg p H H1 := by rw [e1]; exact Chg.self
  have hp1 : H1 p = some (.ins C dx (voF me "asking" false cn stpV hnd knw dsk sa fst sett)) := by rw [e1]; exact upd_same
  rw [← e1]
  obtain ⟨d1, _, _, _, d5, d6⟩ := R.chg c1
  have R1 := R.put c1 hp1 d6 d1 d5
  have ht1 := sqt_mut R.hp ins_no c1 ht
  refine ⟨_, rfl, p, C, dx, _, _, rfl, R1.hp, VT.cl, VT.state, voF_stt _ _ _ _ _ _ _ _ _ _ _, rfl, _, rfl, ?_⟩
  refine iteT' (by decide +kernel) ?_
  refine ⟨_, rfl, _, rfl, p, C, dx, _, _, rfl, R1.hp, VT.cl, VT.stamp, voF_stp _ _ _ _ _ _ _ _ _ _ _, stpD me (some c), stpD me (some c), dp_stp ht1, R1.hst, shaped_stp _ _, shaped_stp _ _, _, rfl, ?_⟩
  refine iteT' (by rw [eqv_stp]; simp) ?_
  refine ⟨_, rfl, p, C, dx, _, _, rfl, R1.hp, VT.cl, VT.hand, voF_hnd _ _ _ _ _ _ _ _ _ _ _, _, rfl, by show 1 ≤ sizeLine; decide, fun u hu => ?_⟩
  have s2 := same_upd (o := .tup [.int k]) hu
  refine cat_anyk (sqt_same s2 R1.hh) (SqT.of upd_same) (by simp; omega) fun r H3 s3 hr3 => ?_
  have er : hs.map V.int ++ [V.int k] = (hs ++ [k]).map V.int := by rw [List.map_append]; rfl
  rw [er] at hr3
  refine ⟨r, hs ++ [k], rfl, hr3, by rw [List.length_append, List.length_singleton]; omega, fun b cb hb lb => ?_⟩
  have s4 := same_upd (o := SetO w b (fun j => decide (j ∈ hs ++ [k])) cb) hb
  rw [List.length_append, List.length_singleton] at lb
  refine ⟨b, _, _, rfl, upd_same, by omega, fun hs' l4 up mem len hl4 => ?_⟩
  have s5 := same_upd (o := .lst (hs'.map V.int)) hl4
  refine ⟨l4, _, rfl, .inl ⟨SqL.of upd_same, fun t5 ht5 => ?_⟩⟩
  have s6 := same_upd (o := .tup (hs'.map V.int)) ht5
  have sA := s2.trans (s3.trans (s4.trans (s5.trans s6)))
  have R2 := R1.same sA
  refine ⟨_, rfl, p, C, dx, _, rfl, R2.hp, VT.cl, VT.hand, (by show 11 < 1000; decide), ?_⟩
  rw [voF_put_hnd]
  obtain ⟨H6, e6⟩ : ∃ H6, H6 = upd (upd (upd (upd H3 b (SetO w b (fun j => decide (j ∈ hs ++ [k])) cb)) l4 (.lst (hs'.map V.int))) t5 (.tup (hs'.map V.int))) p (.ins C dx (voF me "asking" false cn stpV t5 knw dsk sa fst sett)) := ⟨_, rfl⟩
  have c6 : Chg p H H6 := by rw [e6]; exact (c1.trans (Chg.same sA)).trans Chg.self
  have hp6 : H6 p = some (.ins C dx (voF me "asking" false cn stpV t5 knw dsk sa fst sett)) := by rw [e6]; exact upd_same
  have t5p : t5 ≠ p := (ne_of_none (s5 _ _ (s4 _ _ (s3 _ _ (s2 _ _ R1.hp)))) ht5).symm
  have h6 : SqT K H6 t5 (hs'.map V.int) := by rw [e6]; exact SqT.of ((upd_ne t5p).trans upd_same)
  have g6 : ∀ {a : Addr} {xs : List V}, SqT K H1 a xs → SqT K H6 a xs := fun z => by
    rw [e6]
    exact sqt_mut ((sA) _ _ R1.hp) ins_no Chg.self (sqt_same sA z)
  have R6 : VoR K H6 C p dx sa me "asking" cn (some c) hs' S fst ss stpV t5 knw dsk sett tas :=
    R1.put (by rw [e6]; exact (Chg.same sA).trans Chg.self) hp6 (by rw [e6]; exact stp_mut (sA _ _ R1.hp) ins_no Chg.self (dp_same sA _ _ R1.hst)) h6 (g6 R1.hss)
  have R6' := R6
  rw [e6] at R6'
  refine ⟨_, rfl, p, C, dx, _, _, rfl, R6'.hp, VT.cl, VT.set, voF_sett _ _ _ _ _ _ _ _ _ _ _, sett, rfl, ⟨_, R6'.hss⟩, fun D hD' => ?_⟩
  have hD : H6 D = none := by rw [e6]; exact hD'
  refine lc_tup (K := K) (a := sett) (xs := ss.map V.int) (fun i G => Same H6 G ∧ G D = some (.lst (((ss.take i).map fun s => decide (s ∈ hs')).map V.bl))) ⟨by rw [e6]; exact same_upd hD', upd_same⟩ (fun i G _ h => sqt_same h.1 R6.hss) ?_ ?_
  · rintro i x G hx ⟨sG, kD⟩
    obtain ⟨y, hy, rfl⟩ : ∃ y, ss[i]? = some y ∧ x = .int y := by
      rw [List.getElem?_map] at hx
      cases z : ss[i]? with
      | none => rw [z] at hx; cases hx
      | some y => rw [z] at hx; exact ⟨y, rfl, (Option.some.inj hx).symm⟩
    have li := (List.getElem?_eq_some_iff.mp hy).1
    have RG := R6.same sG
    refine ⟨rfl, lc_yes ?_⟩
    refine ⟨_, rfl, _, rfl, p, C, dx, _, _, rfl, RG.hp, VT.cl, VT.hand, voF_hnd _ _ _ _ _ _ _ _ _ _ _, .inl ⟨t5, _, rfl, .inr RG.hh, rfl, flat_ints _, ?_⟩⟩
    refine ⟨_, kD, ?_, fun b o e => ?_, ?_⟩
    · rw [List.length_map, List.length_map, List.length_take]
      exact Nat.lt_of_lt_of_le (show _ < 2000 by omega) (by decide)
    · rw [upd_ne (ne_of_none e hD)]
      exact sG _ _ e
    · rw [List.take_add_one, hy, List.map_append, List.map_append]
      show _ = some (HO.lst (_ ++ [V.bl (decide (y ∈ hs'))]))
      rw [← inV_ints]
      exact upd_same
  rintro G ⟨sG, kD⟩
  rw [List.length_map, List.take_length] at kD
  have RG := R6.same sG
  refine ⟨D, _, rfl, SqL.of kD, _, rfl, ?_⟩
  have eall : (((ss.map fun s => decide (s ∈ hs'))).all fun b => b) = ss.all fun s => decide (s ∈ hs') := by rw [List.all_map]; rfl
  have cG : Chg p H G := c6.trans (Chg.same sG)
  refine ite2 (fun c7 => ?_) (fun c7 => ?_)
  · have c8 : (ss.all fun s => decide (s ∈ hs')) = true := by rw [← eall]; exact c7
    have q := q hs'
    rw [if_pos c8] at q
    refine ⟨_, rfl, p, C, dx, _, rfl, RG.hp, VT.cl, VT.state, (by show 11 < 1000; decide), ?_⟩
    rw [voF_put_stt]
    have c9 : Chg p G (upd G p (.ins C dx (voF me "in" false cn stpV t5 knw dsk sa fst sett))) := Chg.self
    obtain ⟨d1, _, _, _, d5, d6⟩ := RG.chg c9
    have R9 := RG.put c9 upd_same d6 d1 d5
    refine ⟨Nat.zero_le _, fun l hl => ?_⟩
    have s9 := same_upd (o := .lst []) hl
    exact q l _ up (fun x => by rw [mem]; simp) ((cG.trans c9).back hl (fun z => by rw [z, upd_same] at hl; cases hl)) ((cG.trans c9).trans (Chg.same s9)) upd_same (R9.same s9).ex
  · have c8 : ¬ (ss.all fun s => decide (s ∈ hs')) = true := by rw [← eall]; exact c7
    have q := q hs'
    rw [if_neg c8] at q
    refine ⟨Nat.zero_le _, fun l hl => ?_⟩
    have s9 := same_upd (o := .lst []) hl
    exact q l _ up (fun x => by rw [mem]; simp) (cG.back hl (fun z => by rw [z, RG.hp] at hl; cases hl)) (cG.trans (Chg.same s9)) upd_same (RG.same s9).ex
/-- asked back -/
def spHB (K : PySem.W.Frag) (C : Addr) : Sp := fun vs H Q _ => ∃ (p dx sa t : Addr) (me cnt fst c k : Int) (stt : Str) (stp : Option Int) (hs ss : List Int) (S : List (List Int)), vs = [.ref p, .int k, .ref t] ∧ VoAt K H C p dx sa me stt cnt stp hs S fst ss ∧ SqT K H t [.int c, .int me, .int 0] ∧ hs.length < 50 ∧
  ((stt = "asking" ∧ stp = some c ∧ k ∈ hs ∧ ∀ l zs H', H l = none → Chg p H H' → VoAt K H' C p dx sa me "asking" cnt (some c) (hs.filter fun y => !decide (y = k)) S fst ss → H' l = some (.lst zs) → DpAll K H' zs [sendD "given" c k] → Q (.ref l) H') ∨
    (¬ (stt = "asking" ∧ stp = some c ∧ k ∈ hs) ∧ ∀ l, H l = none → Q (.ref l) (upd H l (.lst []))))
theorem sc_Voter_hear_back : FnScope ["self", "sender", "stamp", "seat"] ["self", "sender", "stamp"] (defScope s_Voter_hear_back) :=
  ⟨rfl, rfl, rfl, by decide +kernel, rfl, by decide +kernel, by decide +kernel⟩
theorem ok_hb (F : Fun K "_hear_back" "Voter._hear_back" s_Voter_hear_back f fd) (T : BlV mg) (VT : VoT K C) : FnOk P w K mg base CX0 1 f fd ["self", "sender", "stamp"] (spHB K C) := by
  refine F.ok sc_Voter_hear_back (fun vs H Q E h => ?_) (fun cdv A outer s H vs Q E hr h => ?_)
  · obtain ⟨p, _, _, _, _, _, _, _, _, _, _, _, _, _, rfl, _⟩ := h
    rfl
  obtain ⟨p, dx, sa, t, me, cnt, fst, c, k, stt, stp, hs, ss, S, rfl, ⟨stpV, hnd, knw, dsk, sett, tas, R⟩, ht, lh, h⟩ := h
  refine ⟨_, (pss_cons (ps_if (PW.pt (pw_or (pt_cmpR op_ne (pe_fld (pv 0) (by rfl)) pe_str (nomark _)) (pw_or (pt_cmpR (op_neD (u64 hr)) (pv 2) (pe_fld (pv 0) (by rfl)) (nomark _)) (pw_or1 (pt_cmpR u_notin (pv 1) (pe_fld (pv 0) (by rfl)) (by rfl))))))
    (pss_one (ps_ret (pe_lst pa_nil)))
    pss_nil)
    (pss_cons (ps_fld (pv 0) (pe_callTy call_tuple_of (by rfl) T.tuple (by decide +kernel) (pa_cons (pe_lc (own := [("seat", 3)]) (g := gName 3)  (by rfl) sc_Voter_hear_back.nd (pi_tup (pe_fld (pv 0) (by rfl))) (blkOk_by (N := ["self", "sender", "stamp", "seat"]) (sc := defScope s_Voter_hear_back) (by decide +kernel)) (fun _ _ _ _ _ => pg_name (i := 3) sc_Voter_hear_back.nd rfl (Or.inl rfl)) (fun _ _ _ _ _ => pts_one (pt_cmpR op_ne (pv 3) (pv 1) (nomark _))) (fun _ _ _ _ _ => (pv 3))) pa_nil)) rfl)
    (pss_one (ps_ret (pe_lst (pa_cons (pe_tup (pa_cons (pv 1) (pa_cons (pe_tup (pa_cons pe_str (pa_cons (pe_ix ix_tup (pv 2) pe_int (fun _ _ => rfl)) (pa_cons (pe_ix ix_tup (pv 2) pe_int (fun _ _ => rfl)) pa_nil)))) pa_nil))) pa_nil)))))), ?_⟩
  refine ⟨_, rfl, p, C, dx, _, _, rfl, R.hp, VT.cl, VT.state, voF_stt _ _ _ _ _ _ _ _ _ _ _, rfl, _, rfl, ?_⟩
  rw [dec_str]
  by_cases c1 : stt = "asking"
  · refine iteF' (by rw [decide_eq_true c1]; rfl) ?_
    refine ⟨_, rfl, _, rfl, p, C, dx, _, _, rfl, R.hp, VT.cl, VT.stamp, voF_stp _ _ _ _ _ _ _ _ _ _ _, stpD me (some c), stpD me stp, dp_stp ht, R.hst, shaped_stp _ _, shaped_stp _ _, _, rfl, ?_⟩
    rw [eqv_stp]
    by_cases c2 : stp = some c
    · refine iteF' (by rw [decide_eq_true c2]; rfl) ?_
      refine ⟨_, rfl, _, rfl, p, C, dx, _, _, rfl, R.hp, VT.cl, VT.hand, voF_hnd _ _ _ _ _ _ _ _ _ _ _, .inl ⟨hnd, _, rfl, .inr R.hh, rfl, flat_ints _, _, rfl, ?_⟩⟩
      rw [inV_ints]
      by_cases c3 : k ∈ hs
      · refine iteF' (by rw [decide_eq_true c3]; rfl) ?_
        rcases h with ⟨_, _, _, q⟩ | ⟨n, _⟩
        · refine ⟨_, rfl, p, C, dx, _, _, rfl, R.hp, VT.cl, VT.hand, voF_hnd _ _ _ _ _ _ _ _ _ _ _, hnd, rfl, ⟨_, R.hh⟩, fun D hD => ?_⟩
          refine lc_tup (K := K) (a := hnd) (xs := hs.map V.int) (fun i G => Same H G ∧ G D = some (.lst (((hs.take i).filter fun y => !decide (y = k)).map V.int))) ⟨same_upd hD, upd_same⟩ (fun i G _ h => sqt_same h.1 R.hh) ?_ ?_
          · rintro i x G hx ⟨sG, kD⟩
            obtain ⟨y, hy, rfl⟩ : ∃ y, hs[i]? = some y ∧ x = .int y := by
              rw [List.getElem?_map] at hx
              cases z : hs[i]? with
              | none => rw [z] at hx; cases hx
              | some y => rw [z] at hx; exact ⟨y, rfl, (Option.some.inj hx).symm⟩
            have li := (List.getElem?_eq_some_iff.mp hy).1
            refine ⟨rfl, _, rfl, _, rfl, rfl, _, rfl, ?_⟩
            rw [dec_ii]
            refine ite2 (fun c4 => ?_) (fun c4 => ?_)
            · refine ⟨_, rfl, _, kD, ?_, fun b o e => ?_, ?_⟩
              · rw [List.length_map]
                exact Nat.lt_of_lt_of_le (show _ < 2000 from Nat.lt_of_le_of_lt (List.length_filter_le ..) (by rw [List.length_take]; omega)) (by decide)
              · rw [upd_ne (ne_of_none e hD)]
                exact sG _ _ e
              · rw [List.take_add_one, hy, List.filter_append, Option.toList_some, List.filter_cons, if_pos c4, List.filter_nil, List.map_append]
                exact upd_same
            · refine ⟨sG, ?_⟩
              rw [List.take_add_one, hy, List.filter_append, Option.toList_some, List.filter_cons, if_neg c4, List.filter_nil, List.append_nil]
              exact kD
          rintro G ⟨sG, kD⟩
          rw [List.length_map, List.take_length] at kD
          refine ⟨D, _, rfl, .inl ⟨SqL.of kD, fun t5 ht5 => ?_⟩⟩
          have s5 := same_upd (o := .tup ((hs.filter fun y => !decide (y = k)).map V.int)) ht5
          have R5 := R.same (sG.trans s5)
          refine ⟨_, rfl, p, C, dx, _, rfl, R5.hp, VT.cl, VT.hand, (by show 11 < 1000; decide), ?_⟩
          rw [voF_put_hnd]
          obtain ⟨H6, e6⟩ : ∃ H6, H6 = upd (upd G t5 (.tup ((hs.filter fun y => !decide (y = k)).map V.int))) p (.ins C dx (voF me stt false cnt stpV t5 knw dsk sa fst sett)) := ⟨_, rfl⟩
          have c6 : Chg p (upd G t5 (.tup ((hs.filter fun y => !decide (y = k)).map V.int))) H6 := by rw [e6]; exact Chg.self
          have hp6 : H6 p = some (.ins C dx (voF me stt false cnt stpV t5 knw dsk sa fst sett)) := by rw [e6]; exact upd_same
          rw [← e6]
          obtain ⟨_, _, _, _, d5, d6⟩ := R5.chg c6
          have R6 := R5.put (hs' := hs.filter fun y => !decide (y = k)) c6 hp6 d6 (sqt_mut R5.hp ins_no c6 (SqT.of upd_same)) d5
          have ht6 := sqt_mut R5.hp ins_no c6 (sqt_same (sG.trans s5) ht)
          have cH : Chg p H H6 := (Chg.same (sG.trans s5)).trans c6
          refine ⟨_, rfl, _, rfl, t, _, _, _, rfl, rfl, ht6, atI_nat (j := 0) rfl, _, rfl, t, _, _, _, rfl, rfl, ht6, atI_nat (j := 2) rfl, by show 3 ≤ sizeLine; decide, fun u hu => ?_⟩
          have s7 := same_upd (o := .tup [.str "given", .int c, .int 0]) hu
          refine ⟨by show 2 ≤ sizeLine; decide, fun u2 hu2 => ?_⟩
          have s8 := same_upd (o := .tup [.int k, .ref u]) hu2
          refine ⟨by show 1 ≤ sizeLine; decide, fun l hl => ?_⟩
          have s9 := same_upd (o := .lst [.ref u2]) hl
          have sB := s7.trans (s8.trans s9)
          subst c1
          subst c2
          refine q l [.ref u2] _ (cH.back ((s7.trans s8).free hl) (fun z => by rw [z, (s7.trans s8) _ _ hp6] at hl; cases hl)) (cH.trans (Chg.same sB)) (R6.same sB).ex upd_same (.cons (dp_send (SqT.of (s9 _ _ upd_same)) (SqT.of ((s8.trans s9) _ _ upd_same))) .nil)
        · exact absurd ⟨c1, c2, c3⟩ n
      · refine iteT' (by rw [decide_eq_false c3]; rfl) ?_
        rcases h with ⟨_, _, m, _⟩ | ⟨_, q⟩
        · exact absurd m c3
        · exact ⟨Nat.zero_le _, fun l hl => q l hl⟩
    · refine iteT' (by rw [decide_eq_false c2]; rfl) ?_
      rcases h with ⟨_, m, _⟩ | ⟨_, q⟩
      · exact absurd m c2
      · exact ⟨Nat.zero_le _, fun l hl => q l hl⟩
  · refine iteT' (by rw [decide_eq_false c1]; rfl) ?_
    rcases h with ⟨m, _⟩ | ⟨_, q⟩
    · exact absurd m c1
    · exact ⟨Nat.zero_le _, fun l hl => q l hl⟩
end

end G0
namespace G0
open PySem PySem.Spec PyProof.Rows L2 NdefX ClX
section
variable {P : Program} {w : World} {K : PySem.W.Frag} {mg : Str → Option Value} {base : Heap} {C CK f : Addr} {fd : FuncData}
/-! ### Seat.__init__, of an object of a class under it -/
def seatG (m : Int) : List (Str × V) := [("me", .int m), ("state", .str "out"), ("sits", .bl false)]
theorem seatG_made (m : Int) : putF "sits" (.bl false) (putF "state" (.str "out") (putF "me" (.int m) [])) = seatG m := by
  simp only [putF, seatG, n_voF_me_stt, n_voF_me_sits, n_voF_stt_sits, if_false, if_true]
def spSeat0 (C : Addr) : Sp := fun vs H Q _ => ∃ (p dx : Addr) (m : Int), vs = [.ref p, .int m] ∧ H p = some (.ins C dx []) ∧ Q .non (upd H p (.ins C dx (seatG m)))
theorem sc_Seat__init : FnScope ["self", "me"] ["self", "me"] (defScope s_Seat__init) :=
  ⟨rfl, rfl, rfl, by decide +kernel, rfl, by decide +kernel, by decide +kernel⟩
theorem ok_seat0 {f : Addr} {fd : FuncData} (F : Fun K "__init__" "Seat.__init__" s_Seat__init f fd) (c : Cls K C) (n1 : NoAttr K C "me") (n2 : NoAttr K C "state") (n3 : NoAttr K C "sits") : FnOk P w K mg base CX0 1 f fd ["self", "me"] (spSeat0 C) := by
  refine F.ok sc_Seat__init (fun vs H Q E h => ?_) (fun cdv A outer s H vs Q E hr h => ?_)
  · obtain ⟨p, dx, m, rfl, _⟩ := h
    rfl
  obtain ⟨p, dx, m, rfl, hp, q⟩ := h
  refine ⟨_, (pss_cons (ps_fld (pv 0) (pv 1) rfl)
    (pss_cons (ps_fld (pv 0) pe_str rfl)
    (pss_one (ps_fld (pv 0) pe_bl rfl)))), ?_⟩
  refine ⟨_, rfl, _, rfl, p, C, dx, _, rfl, hp, c, n1, (by show 0 < 1000; decide), ?_⟩
  refine ⟨_, rfl, p, C, dx, _, rfl, upd_same, c, n2, (by show 1 < 1000; decide), ?_⟩
  refine ⟨_, rfl, p, C, dx, _, rfl, upd_same, c, n3, (by show 2 < 1000; decide), ?_⟩
  rw [upd_upd, upd_upd, seatG_made]
  exact q
theorem fnR_of {k : Nat} {f : Addr} {fd : FuncData} {ps : List Str} {sp : Sp} (F : FnOk P w K mg base CX0 k f fd ps sp) (b : Binds K fd ps []) : FnR P w K mg base CX0 k f sp :=
  fun A outer s H us vs Q E hr e0 r h => by
    have hl : (us ++ []).length = ps.length := by rw [List.append_nil, ← r.length]; exact F.len _ _ _ _ h
    have KX : K.In s.heap := e0.mod.kin.keeps fun b o z => (e0.bs b o z).1
    have bt := b s us KX hl
    rw [List.append_nil] at bt
    exact F.run A outer s H ⟨us, []⟩ us vs Q E hr e0 bt r h
end
/-! ### Desk -/
def deskF (h q : V) (b : Bool) : List (Str × V) := [("holder", h), ("queue", q), ("called", .bl b)]
theorem n_qh : ¬ (("queue" : Str) = "holder") := by decide +kernel
theorem n_ch : ¬ (("called" : Str) = "holder") := by decide +kernel
theorem n_cq : ¬ (("called" : Str) = "queue") := by decide +kernel
theorem deskF_holder (h q : V) (b : Bool) : (deskF h q b).lookup ("holder" : Str) = some h := by unfold deskF; rw [List.lookup_cons_self]
theorem deskF_queue (h q : V) (b : Bool) : (deskF h q b).lookup ("queue" : Str) = some q := by
  unfold deskF; rw [List.lookup_cons, beq_false_of_ne n_qh]; simp only []; rw [List.lookup_cons_self]
theorem deskF_called (h q : V) (b : Bool) : (deskF h q b).lookup ("called" : Str) = some (.bl b) := by
  unfold deskF; rw [List.lookup_cons, beq_false_of_ne n_ch]; simp only []; rw [List.lookup_cons, beq_false_of_ne n_cq]; simp only []; rw [List.lookup_cons_self]
theorem deskF_no (h q : V) (b : Bool) {x : Str} (h1 : x ≠ ("holder" : Str)) (h2 : x ≠ ("queue" : Str)) (h3 : x ≠ ("called" : Str)) : (deskF h q b).lookup x = none := by
  unfold deskF
  rw [List.lookup_cons, beq_false_of_ne h1]; simp only []
  rw [List.lookup_cons, beq_false_of_ne h2]; simp only []
  rw [List.lookup_cons, beq_false_of_ne h3]; rfl
theorem deskF_putH (h q u : V) (b : Bool) : putF "holder" u (deskF h q b) = deskF u q b := by
  unfold deskF
  show (if ("holder" : Str) = "holder" then _ else _) = _
  rw [if_pos rfl]
theorem deskF_putQ (h q u : V) (b : Bool) : putF "queue" u (deskF h q b) = deskF h u b := by
  unfold deskF
  show (if ("holder" : Str) = "queue" then _ else (("holder" : Str), h) :: (if ("queue" : Str) = "queue" then _ else _)) = _
  rw [if_neg (fun z => n_qh z.symm), if_pos rfl]
theorem deskF_putC (h q : V) (b c : Bool) : putF "called" (.bl c) (deskF h q b) = deskF h q c := by
  unfold deskF
  show (if ("holder" : Str) = "called" then _ else (("holder" : Str), h) :: (if ("queue" : Str) = "called" then _ else (("queue" : Str), q) :: (if ("called" : Str) = "called" then _ else _))) = _
  rw [if_neg (fun z => n_ch z.symm), if_neg (fun z => n_cq z.symm), if_pos rfl]
theorem deskF_made (q : V) : putF "called" (.bl false) (putF "queue" q (putF "holder" .non [])) = deskF .non q false := by
  show putF "called" (.bl false) (if ("holder" : Str) = "queue" then _ else (("holder" : Str), V.non) :: putF "queue" q []) = _
  rw [if_neg (fun z => n_qh z.symm)]
  show (if ("holder" : Str) = "called" then _ else (("holder" : Str), V.non) :: (if ("queue" : Str) = "called" then _ else (("queue" : Str), q) :: putF "called" (.bl false) [])) = _
  rw [if_neg (fun z => n_ch z.symm), if_neg (fun z => n_cq z.symm)]
  rfl
structure DeskT (K : PySem.W.Frag) (mg : Str → Option Value) (C : Addr) : Prop where
  cl : Cls K C
  nH : NoAttr K C "holder"
  nQ : NoAttr K C "queue"
  nC : NoAttr K C "called"
  mgC : mg "Desk" = some (.ref C)
section
variable {P : Program} {w : World} {K : PySem.W.Frag} {mg : Str → Option Value} {base : Heap} {C CD f : Addr} {fd : FuncData}
def spDInit (C : Addr) : Sp := fun vs H Q _ => ∃ (p dx : Addr), vs = [.ref p] ∧ H p = some (.ins C dx []) ∧
  ∀ q H', H q = none → H' q = some (.tup []) → H' p = some (.ins C dx (deskF .non (.ref q) false)) → Chg p H H' → Q .non H'
theorem sc_Desk__init : FnScope ["self"] ["self"] (defScope s_Desk__init) :=
  ⟨rfl, rfl, rfl, by decide +kernel, rfl, by decide +kernel, by decide +kernel⟩
theorem ok_dinit (F : Fun K "__init__" "Desk.__init__" s_Desk__init f fd) (S : DeskT K mg C) : FnOk P w K mg base CX0 1 f fd ["self"] (spDInit C) := by
  refine F.ok sc_Desk__init (fun vs H Q E h => ?_) (fun cdv A outer s H vs Q E hr h => ?_)
  · obtain ⟨p, dx, rfl, _⟩ := h
    rfl
  obtain ⟨p, dx, rfl, hp, q⟩ := h
  refine ⟨_, (pss_cons (ps_fld (pv 0) pe_non rfl)
    (pss_cons (ps_fld (pv 0) (pe_tup pa_nil) rfl)
    (pss_one (ps_fld (pv 0) pe_bl rfl)))), ?_⟩
  refine ⟨_, rfl, p, C, dx, _, rfl, hp, S.cl, S.nH, (by show 0 < 1000; decide), ?_⟩
  refine ⟨Nat.zero_le _, fun e he => ?_⟩
  have pe : p ≠ e := by intro z; rw [z, upd_same] at he; cases he
  have he0 : H e = none := by rw [upd_ne pe.symm] at he; exact he
  refine ⟨_, rfl, p, C, dx, _, rfl, by rw [upd_ne pe, upd_same], S.cl, S.nQ, (by show 1 < 1000; decide), ?_⟩
  refine ⟨_, rfl, p, C, dx, _, rfl, upd_same, S.cl, S.nC, (by show 2 < 1000; decide), ?_⟩
  rw [deskF_made]
  refine q e _ he0 ?_ upd_same ?_
  · rw [upd_ne pe.symm, upd_ne pe.symm, upd_same]
  · intro b o n h
    rw [upd_ne n, upd_ne n, upd_ne (ne_of_none h he0), upd_ne n]
    exact h
/-! ### hear -/
def tDead : TS := fun _ _ _ => False
theorem ps_dead {X : Cx} {st : Stmt} : PS X st tDead := ⟨fun _ _ _ _ _ _ h => h.elim⟩
def spHearV (K : PySem.W.Frag) (C : Addr) : Sp := fun vs H Q _ => ∃ (p dx sa lt : Addr) (me cnt fst c k : Int) (stt : Str) (stp : Option Int) (hs ss : List Int) (S : List (List Int)), vs = [.ref p, .int k, .ref lt] ∧ VoAt K H C p dx sa me stt cnt stp hs S fst ss ∧ hs.length < 50 ∧ ss.length ≤ 1000 ∧
  ((∃ c2 : Int, SqT K H lt [.str "vote", .int c, .int 0, .int c2] ∧ stt = "asking" ∧ stp = some c ∧
      ∀ (hs' : List Int) l H', hs'.Pairwise (· < ·) → (∀ x : Int, x ∈ hs' ↔ x ∈ hs ∨ x = k) → H l = none → Chg p H H' → H' l = some (.lst []) →
        VoAt K H' C p dx sa me (if (ss.all fun s => decide (s ∈ hs')) = true then "in" else "asking") (if c2 > cnt then c2 else cnt) (some c) hs' S fst ss → Q (.ref l) H') ∨
    (SqT K H lt [.str "back", .int c, .int 0] ∧
      ((stt = "asking" ∧ stp = some c ∧ k ∈ hs ∧ ∀ l zs H', H l = none → Chg p H H' → VoAt K H' C p dx sa me "asking" cnt (some c) (hs.filter fun y => !decide (y = k)) S fst ss → H' l = some (.lst zs) → DpAll K H' zs [sendD "given" c k] → Q (.ref l) H') ∨
        (¬ (stt = "asking" ∧ stp = some c ∧ k ∈ hs) ∧ ∀ l H', H l = none → Same H H' → H' l = some (.lst []) → Q (.ref l) H'))))
theorem sc_Voter_hear : FnScope ["self", "sender", "letter", "word", "stamp_count", "turn", "stamp"] ["self", "sender", "letter"] (defScope s_Voter_hear) :=
  ⟨rfl, rfl, rfl, by decide +kernel, rfl, by decide +kernel, by decide +kernel⟩
theorem ok_hearV (F : Fun K "hear" "Voter.hear" s_Voter_hear f fd) (VT : VoT K C) (MV : Me P w K mg base CX0 C "_hear_vote" 1 ["self", "sender", "stamp", "count"] (spHV K C)) (MB : Me P w K mg base CX0 C "_hear_back" 1 ["self", "sender", "stamp"] (spHB K C)) :
    FnOk P w K mg base CX0 2 f fd ["self", "sender", "letter"] (spHearV K C) := by
  obtain ⟨fV, fdV, GV, bV, mV⟩ := MV
  obtain ⟨fB, fdB, GB, bB, mB⟩ := MB
  refine F.ok sc_Voter_hear (fun vs H Q E h => ?_) (fun cdv A outer s H vs Q E hr h => ?_)
  · obtain ⟨p, _, _, _, _, _, _, _, _, _, _, _, _, _, rfl, _⟩ := h
    rfl
  obtain ⟨p, dx, sa, lt, me, cnt, fst, c, k, stt, stp, hs, ss, S, rfl, VA, lh, ls, h⟩ := h
  obtain ⟨stpV, hnd, knw, dsk, sett, tas, R⟩ := id VA
  refine ⟨_, (pss_cons (ps_asg (pe_slice sl_tupA (pv 2) po_none (po_some pe_int)) (pg_tup (by rfl) (pgs_cons (pg_name (i := 3) sc_Voter_hear.nd rfl (Or.inl rfl)) (pgs_cons (pg_name (i := 4) sc_Voter_hear.nd rfl (Or.inl rfl)) (pgs_cons (pg_name (i := 5) sc_Voter_hear.nd rfl (Or.inl rfl)) pgs_nil)))))
    (pss_cons (ps_if (pt_cmpR op_eq (pv 3) pe_str (nomark _))
    (pss_one (ps_ret (pe_meth (pv 0) VT.cl mV GV hr bV .nil pass0 (pa_cons (pv 1) (pa_cons (pe_tup (pa_cons (pv 4) (pa_cons (pe_fld (pv 0) (by rfl)) (pa_cons (pv 5) pa_nil)))) (pa_cons (pe_ix ix_tup (pv 2) pe_int (fun _ _ => rfl)) pa_nil))))))
    pss_nil)
    (pss_cons (ps_if (pt_cmpR op_eq (pv 3) pe_str (nomark _))
    (pss_one (ps_ret (pe_meth (pv 0) VT.cl mB GB hr bB .nil pass0 (pa_cons (pv 1) (pa_cons (pe_tup (pa_cons (pv 4) (pa_cons (pe_fld (pv 0) (by rfl)) (pa_cons (pv 5) pa_nil)))) pa_nil)))))
    pss_nil)
    (pss_cons ps_dead
    (pss_cons ps_dead
    (pss_cons ps_dead
    (pss_one ps_dead))))))), ?_⟩
  have hno := (voF_no me stt false cnt stpV hnd knw dsk sa fst sett (x := "_hear_vote") (by decide +kernel) (by decide +kernel) (by decide +kernel) (by decide +kernel) (by decide +kernel) (by decide +kernel) (by decide +kernel) (by decide +kernel) (by decide +kernel) (by decide +kernel) (by decide +kernel))
  have hno2 := (voF_no me stt false cnt stpV hnd knw dsk sa fst sett (x := "_hear_back") (by decide +kernel) (by decide +kernel) (by decide +kernel) (by decide +kernel) (by decide +kernel) (by decide +kernel) (by decide +kernel) (by decide +kernel) (by decide +kernel) (by decide +kernel) (by decide +kernel))
  rcases h with ⟨c2, hl, rfl, rfl, q⟩ | ⟨hl, h⟩
  · refine ⟨_, rfl, _, rfl, sl_anyk hl fun r H1 s1 hr1 => ?_⟩
    have R1 := R.same s1
    refine ⟨r, _, rfl, hr1, rfl, _, _, rfl, _, _, rfl, _, _, rfl, rfl, ?_⟩
    refine ⟨_, rfl, rfl, _, rfl, iteT' (by decide +kernel) ?_⟩
    refine ⟨_, rfl, p, dx, _, rfl, R1.hp, hno, ?_⟩
    refine ⟨_, rfl, _, rfl, _, rfl, p, C, dx, _, _, rfl, R1.hp, VT.cl, VT.me, voF_me _ _ _ _ _ _ _ _ _ _ _, _, rfl, by show 3 ≤ sizeLine; decide, fun t ht => ?_⟩
    have s2 := same_upd (o := .tup [.int c, .int me, .int 0]) ht
    have R2 := R1.same s2
    refine ⟨_, rfl, lt, _, _, _, rfl, rfl, sqt_same (s1.trans s2) hl, atI_nat (j := 3) rfl, ?_⟩
    refine ⟨p, dx, sa, t, me, cnt, fst, c, k, c2, hs, ss, S, rfl, R2.ex, SqT.of upd_same, lh, ls, fun hs' l H' u m hl' cg kl V' => ?_⟩
    exact q hs' l H' u m ((s1.trans s2).free hl') ((Chg.same (s1.trans s2)).trans cg) kl V'
  · refine ⟨_, rfl, _, rfl, sl_anyk hl fun r H1 s1 hr1 => ?_⟩
    have R1 := R.same s1
    refine ⟨r, _, rfl, hr1, rfl, _, _, rfl, _, _, rfl, _, _, rfl, rfl, ?_⟩
    refine ⟨_, rfl, rfl, _, rfl, iteF' (by decide +kernel) ?_⟩
    refine ⟨_, rfl, rfl, _, rfl, iteT' (by decide +kernel) ?_⟩
    refine ⟨_, rfl, p, dx, _, rfl, R1.hp, hno2, ?_⟩
    refine ⟨_, rfl, _, rfl, _, rfl, p, C, dx, _, _, rfl, R1.hp, VT.cl, VT.me, voF_me _ _ _ _ _ _ _ _ _ _ _, _, rfl, by show 3 ≤ sizeLine; decide, fun t ht => ?_⟩
    have s2 := same_upd (o := .tup [.int c, .int me, .int 0]) ht
    have R2 := R1.same s2
    refine ⟨p, dx, sa, t, me, cnt, fst, c, k, stt, stp, hs, ss, S, rfl, R2.ex, SqT.of upd_same, lh, ?_⟩
    rcases h with ⟨e1, e2, e3, q⟩ | ⟨n, q⟩
    · exact .inl ⟨e1, e2, e3, fun l zs H' hl' cg V' kl dz => q l zs H' ((s1.trans s2).free hl') ((Chg.same (s1.trans s2)).trans cg) V' kl dz⟩
    · exact .inr ⟨n, fun l hl' => q l _ ((s1.trans s2).free hl') ((s1.trans s2).trans (same_upd hl')) upd_same⟩
end

end G0
namespace G0
open PySem PySem.Spec PyProof.Rows L2 NdefX ClX
section
variable {P : Program} {w : World} {K : PySem.W.Frag} {mg : Str → Option Value} {base : Heap} {C CD : Addr}
/-! ### made -/
def spVInit (K : PySem.W.Frag) (C : Addr) : Sp := fun vs H Q _ => ∃ (p dx sl : Addr) (m cn : Int) (fv : V) (fo : Option Int) (S : List (List Int)) (tas : List Addr), vs = [.ref p, .int m, .ref sl, fv, .int cn] ∧ H p = some (.ins C dx []) ∧ H sl = some (.lst (tas.map V.ref)) ∧ Tups K H tas S ∧
  ((fv = .non ∧ fo = none) ∨ ∃ a, fv = .int a ∧ fo = some a) ∧ ∀ (sa : Addr) H', Chg p H H' → H sa = none → VoAt K H' C p dx sa m "out" cn none [] S (fo.getD m) [] → Q .non H'
theorem voF_end (m cn fs : Int) (h k d sa se : Addr) : putF "_set" (.ref se) (putF "_first" (.int fs) (putF "_sets" (.ref sa) (putF "desk" (.ref d) (putF "known" (.ref k) (putF "hand" (.ref h) (putF "stamp" .non (putF "count" (.int cn) (seatG m)))))))) = voF m "out" false cn .non h k d sa fs se :=
  voF_made m "out" false cn .non h k d sa fs se
/-- one more thing laid, one more field -/
theorem step_fld {H G : Hp} {p dx e : Addr} {o : HO} {fs : List (Str × V)} (c : Chg p H G) (hp : G p = some (.ins C dx fs)) (he : G e = none) (x : Str) (v : V) :
    ∃ G', G' = upd (upd G e o) p (.ins C dx (putF x v fs)) ∧ Chg p H G' ∧ G' p = some (.ins C dx (putF x v fs)) ∧ G' e = some o ∧ e ≠ p ∧ H e = none := by
  have ep : e ≠ p := (ne_of_none hp he).symm
  exact ⟨_, rfl, (c.trans (Chg.same (same_upd he))).trans Chg.self, upd_same, (upd_ne ep).trans upd_same, ep, c.back he ep⟩
theorem ok_vinit {f cc cda D f2 fK : Addr} {fdK : FuncData} {dV kV doc pm ct oc cl : Value} {v : Option Value} {an od cld : Option Addr} {osl csl : Array (Option Value)} (T : BlV mg)
    (lk : K.lookup f = some ⟨oc, od, .func (PySem.W.ksFn "__init__" "Voter.__init__" (defArgs s_Voter__init) (defBody s_Voter__init) (defScope s_Voter__init) dV kV doc pm an (.ref cda) ct cc), osl⟩)
    (coded : PySem.W.codeIn K (.ref cda) "Voter.__init__" = true) (lc : K.lookup cc = some ⟨cl, cld, .cell v, csl⟩)
    (F : SupF P K ["self", "me", "sets", "first", "count", "__class__"] f cc cda D (PySem.W.ksFn "__init__" "Voter.__init__" (defArgs s_Voter__init) (defBody s_Voter__init) (defScope s_Voter__init) dV kV doc pm an (.ref cda) ct cc) (defArgs s_Voter__init) (defScope s_Voter__init))
    (F2 : FnR P w K mg base CX0 1 f2 (spSeat0 C)) (VT : VoT K C) (mro : PySem.W.mroIn K C (.ref D) = some true) (su : PySem.W.ks_superIn K C D "__init__" = some (some (.ref f2))) (ty : PySem.W.typeIn K (.ref f2) = some (.type "function")) (fi : PySem.W.fnIn K f2 = true)
    (KKm : Mk K CD fK) (GK : FnOk P w K mg base CX0 1 fK fdK ["self"] (spDInit CD)) (bK : Binds K fdK ["self"] []) (gD : mg "Desk" = some (.ref CD)) :
    FnOk P w K mg base CX0 3 f (PySem.W.ksFn "__init__" "Voter.__init__" (defArgs s_Voter__init) (defBody s_Voter__init) (defScope s_Voter__init) dV kV doc pm an (.ref cda) ct cc) ["self", "me", "sets", "first", "count"] (spVInit K C) := by
  have NS : NScope ["self", "me", "sets", "first", "count", "__class__"] ["self", "me", "sets", "first", "count"] ["__class__"] (defScope s_Voter__init) := nscope_by (by decide +kernel)
  refine fnS_of lk coded lc NS ?_ fun A outer s H vs Q E hr h => ?_
  · rintro vs H Q E ⟨p, dx, sl, m, cn, fv, fo, S, tas, rfl, _⟩
    rfl
  obtain ⟨p, dx, sl, m, cn, fv, fo, S, tas, rfl, hp, hsl, hT, hf, q⟩ := h
  refine ⟨_, _, p1_supM F F2 (hr.mono (by decide)) (pa_cons (pv 1 (by rfl) (.inl (NS.par _ (by simp)))) pa_nil), (pss_cons (ps_fld (pv 0) (pv 4) rfl)
    (pss_cons (ps_fld (pv 0) pe_non rfl)
    (pss_cons (ps_fld (pv 0) (pe_tup pa_nil) rfl)
    (pss_cons (ps_fld (pv 0) (pe_tup pa_nil) rfl)
    (pss_cons (ps_fld (pv 0) (pe_make0 KKm GK hr (by rfl) gD bK .nil pass0) rfl)
    (pss_cons (ps_fld (pv 0) (pe_callTy call_list_of (by rfl) T.list (by decide +kernel) (pa_cons (pv 2) pa_nil)) rfl)
    (pss_cons (ps_fld (pv 0) (pe_ifExp (pt_cmpR op_isN (pv 3) pe_non (nomark _)) (pv 1) (pv 3)) rfl)
    (pss_one (ps_fld (pv 0) (pe_tup pa_nil) rfl))))))))), ?_⟩
  refine ⟨p, C, dx, [], rfl, hp, mro, su, ty, fi, _, rfl, p, dx, m, rfl, hp, ?_⟩
  refine ⟨_, rfl, _, rfl, p, C, dx, _, rfl, upd_same, VT.cl, VT.count, (by show 3 < 1000; decide), ?_⟩
  rw [upd_upd]
  refine ⟨_, rfl, p, C, dx, _, rfl, upd_same, VT.cl, VT.stamp, (by show 4 < 1000; decide), ?_⟩
  rw [upd_upd]
  obtain ⟨H1, e1⟩ : ∃ H1, H1 = upd H p (.ins C dx (putF "stamp" .non (putF "count" (.int cn) (seatG m)))) := ⟨_, rfl⟩
  have c1 : Chg p H H1 := by rw [e1]; exact Chg.self
  have k1 : H1 p = some (.ins C dx (putF "stamp" .non (putF "count" (.int cn) (seatG m)))) := by rw [e1]; exact upd_same
  rw [← e1]
  clear e1
  refine ⟨Nat.zero_le _, fun h1 hh1 => ?_⟩
  obtain ⟨H2, e2, c2, k2, h2, hp2, hn2⟩ := step_fld (o := .tup []) c1 k1 hh1 "hand" (.ref h1)
  refine ⟨_, rfl, p, C, dx, _, rfl, (upd_ne hp2.symm).trans k1, VT.cl, VT.hand, (by show 5 < 1000; decide), ?_⟩
  rw [← e2]
  clear e2
  refine ⟨Nat.zero_le _, fun h3 hh3 => ?_⟩
  obtain ⟨H3, e3, c3, k3, h3', hp3, hn3⟩ := step_fld (o := .tup []) c2 k2 hh3 "known" (.ref h3)
  refine ⟨_, rfl, p, C, dx, _, rfl, (upd_ne hp3.symm).trans k2, VT.cl, VT.known, (by show 6 < 1000; decide), ?_⟩
  have h13 : H3 h1 = some (.tup []) := by rw [e3, upd_ne hp2, upd_ne (ne_of_none h2 hh3)]; exact h2
  rw [← e3]
  clear e3
  refine fun y dy hy hdy ne => ⟨y, dy, rfl, upd_same, fun qa H4 hq4 h4 hp4 c4 => ⟨rfl, ?_⟩⟩
  have sy : Same H3 (upd (upd H3 dy (.own y)) y (.ins CD dy [])) := (same_upd hdy).trans (same_upd (by rw [upd_ne ne.symm]; exact hy))
  have s4 : Same H3 H4 := fun b o e => c4 _ _ (ne_of_none e hy) (sy _ _ e)
  have k4 := s4 _ _ k3
  refine ⟨_, rfl, p, C, dx, _, rfl, k4, VT.cl, VT.desk, (by show 7 < 1000; decide), ?_⟩
  obtain ⟨H5, e5⟩ : ∃ H5, H5 = upd H4 p (.ins C dx (putF "desk" (.ref y) (putF "known" (.ref h3) (putF "hand" (.ref h1) (putF "stamp" .non (putF "count" (.int cn) (seatG m))))))) := ⟨_, rfl⟩
  have c5 : Chg p H H5 := by rw [e5]; exact (c3.trans (Chg.same s4)).trans Chg.self
  have k5 : H5 p = some (.ins C dx (putF "desk" (.ref y) (putF "known" (.ref h3) (putF "hand" (.ref h1) (putF "stamp" .non (putF "count" (.int cn) (seatG m))))))) := by rw [e5]; exact upd_same
  have h15 : H5 h1 = some (.tup []) := by rw [e5, upd_ne hp2]; exact s4 _ _ h13
  have h35 : H5 h3 = some (.tup []) := by rw [e5, upd_ne hp3]; exact s4 _ _ h3'
  rw [← e5]
  clear e5
  have slp : sl ≠ p := ne_of hsl hp (by intro z; cases z)
  have ksl := c5 _ _ slp hsl
  refine ⟨_, rfl, sl, _, rfl, .inl (SqL.of ksl), fun sa hsa => ?_⟩
  obtain ⟨H6, e6, c6, k6, h6, hp6, hn6⟩ := step_fld (o := .lst (tas.map V.ref)) c5 k5 hsa "_sets" (.ref sa)
  refine ⟨_, rfl, p, C, dx, _, rfl, (upd_ne hp6.symm).trans k5, VT.cl, VT.sets, (by show 8 < 1000; decide), ?_⟩
  have h16 : H6 h1 = some (.tup []) := by rw [e6, upd_ne hp2, upd_ne (ne_of_none h15 hsa)]; exact h15
  have h36 : H6 h3 = some (.tup []) := by rw [e6, upd_ne hp3, upd_ne (ne_of_none h35 hsa)]; exact h35
  rw [← e6]
  clear e6
  rcases hf with ⟨rfl, rfl⟩ | ⟨a, rfl, rfl⟩
  · refine ⟨_, rfl, rfl, _, rfl, iteT' rfl ?_⟩
    refine ⟨_, rfl, ?_⟩
    refine ⟨_, rfl, p, C, dx, _, rfl, k6, VT.cl, VT.first, (by show 9 < 1000; decide), ?_⟩
    obtain ⟨H7, e7⟩ : ∃ H7, H7 = upd H6 p (.ins C dx (putF "_first" (.int (m)) (putF "_sets" (.ref sa) (putF "desk" (.ref y) (putF "known" (.ref h3) (putF "hand" (.ref h1) (putF "stamp" .non (putF "count" (.int cn) (seatG m))))))))) := ⟨_, rfl⟩
    have c7 : Chg p H H7 := by rw [e7]; exact c6.trans Chg.self
    have k7 : H7 p = some (.ins C dx (putF "_first" (.int (m)) (putF "_sets" (.ref sa) (putF "desk" (.ref y) (putF "known" (.ref h3) (putF "hand" (.ref h1) (putF "stamp" .non (putF "count" (.int cn) (seatG m))))))))) := by rw [e7]; exact upd_same
    have h17 : H7 h1 = some (.tup []) := by rw [e7, upd_ne hp2]; exact h16
    have h37 : H7 h3 = some (.tup []) := by rw [e7, upd_ne hp3]; exact h36
    have h67 : H7 sa = some (.lst (tas.map V.ref)) := by rw [e7, upd_ne hp6]; exact h6
    rw [← e7]
    clear e7
    refine ⟨Nat.zero_le _, fun h8 hh8 => ?_⟩
    obtain ⟨H8, e8, c8, k8, h8', hp8, hn8⟩ := step_fld (o := .tup []) c7 k7 hh8 "_set" (.ref h8)
    refine ⟨_, rfl, p, C, dx, _, rfl, (upd_ne hp8.symm).trans k7, VT.cl, VT.set, (by show 10 < 1000; decide), ?_⟩
    rw [← e8]
    have h18 : H8 h1 = some (.tup []) := by rw [e8, upd_ne hp2, upd_ne (ne_of_none h17 hh8)]; exact h17
    have h38 : H8 h3 = some (.tup []) := by rw [e8, upd_ne hp3, upd_ne (ne_of_none h37 hh8)]; exact h37
    have h68 : H8 sa = some (.lst (tas.map V.ref)) := by rw [e8, upd_ne hp6, upd_ne (ne_of_none h67 hh8)]; exact h67
    rw [voF_end] at k8
    exact q sa H8 c8 hn6 ⟨.non, h1, h3, y, h8, tas, k8, .non, SqT.of h18, SqT.of h38, h68, ⟨hT.1, fun i t one a1 a2 => sqt_mut hp ins_no c8 (hT.2 i t one a1 a2)⟩, SqT.of h8'⟩
  · refine ⟨_, rfl, rfl, _, rfl, iteF' rfl ?_⟩
    refine ⟨_, rfl, ?_⟩
    refine ⟨_, rfl, p, C, dx, _, rfl, k6, VT.cl, VT.first, (by show 9 < 1000; decide), ?_⟩
    obtain ⟨H7, e7⟩ : ∃ H7, H7 = upd H6 p (.ins C dx (putF "_first" (.int (a)) (putF "_sets" (.ref sa) (putF "desk" (.ref y) (putF "known" (.ref h3) (putF "hand" (.ref h1) (putF "stamp" .non (putF "count" (.int cn) (seatG m))))))))) := ⟨_, rfl⟩
    have c7 : Chg p H H7 := by rw [e7]; exact c6.trans Chg.self
    have k7 : H7 p = some (.ins C dx (putF "_first" (.int (a)) (putF "_sets" (.ref sa) (putF "desk" (.ref y) (putF "known" (.ref h3) (putF "hand" (.ref h1) (putF "stamp" .non (putF "count" (.int cn) (seatG m))))))))) := by rw [e7]; exact upd_same
    have h17 : H7 h1 = some (.tup []) := by rw [e7, upd_ne hp2]; exact h16
    have h37 : H7 h3 = some (.tup []) := by rw [e7, upd_ne hp3]; exact h36
    have h67 : H7 sa = some (.lst (tas.map V.ref)) := by rw [e7, upd_ne hp6]; exact h6
    rw [← e7]
    clear e7
    refine ⟨Nat.zero_le _, fun h8 hh8 => ?_⟩
    obtain ⟨H8, e8, c8, k8, h8', hp8, hn8⟩ := step_fld (o := .tup []) c7 k7 hh8 "_set" (.ref h8)
    refine ⟨_, rfl, p, C, dx, _, rfl, (upd_ne hp8.symm).trans k7, VT.cl, VT.set, (by show 10 < 1000; decide), ?_⟩
    rw [← e8]
    have h18 : H8 h1 = some (.tup []) := by rw [e8, upd_ne hp2, upd_ne (ne_of_none h17 hh8)]; exact h17
    have h38 : H8 h3 = some (.tup []) := by rw [e8, upd_ne hp3, upd_ne (ne_of_none h37 hh8)]; exact h37
    have h68 : H8 sa = some (.lst (tas.map V.ref)) := by rw [e8, upd_ne hp6, upd_ne (ne_of_none h67 hh8)]; exact h67
    rw [voF_end] at k8
    exact q sa H8 c8 hn6 ⟨.non, h1, h3, y, h8, tas, k8, .non, SqT.of h18, SqT.of h38, h68, ⟨hT.1, fun i t one a1 a2 => sqt_mut hp ins_no c8 (hT.2 i t one a1 a2)⟩, SqT.of h8'⟩
end

end G0
namespace G0
open PySem PySem.Spec PyProof.Rows L2 NdefX ClX
section
variable {P : Program} {w : World} {K : PySem.W.Frag} {mg : Str → Option Value} {base : Heap} {C : Addr}
def spCell (K : PySem.W.Frag) : Sp := fun vs H Q _ => ∃ (a : Addr) (ns : List Int) (k : Int), vs = [.ref a, .int k] ∧ SqL K H a (ns.map V.int) ∧ 0 ≤ k ∧ (∀ z ∈ ns, Builtin.Int.intBits z ≤ 1048576) ∧ ∀ c : Int, Builtin.Int.intBits c ≤ 1048576 → Q (.int c) H
theorem sc_law_cell_at : FnScope ["script", "k"] ["script", "k"] (defScope s_law_cell_at) :=
  ⟨rfl, rfl, rfl, by decide +kernel, rfl, by decide +kernel, by decide +kernel⟩
theorem ok_cell (F : Fn K mg "_law_cell_at" s_law_cell_at) (T : BlV mg) : Cal P w K mg base "_law_cell_at" 1 ["script", "k"] (spCell K) := by
  refine cal_of F sc_law_cell_at
    (fun _ _ _ _ _ _ us hl => match us, hl with | [_, _], _ => rfl) ?_ ?_
  · rintro vs H Q E ⟨a, ns, k, rfl, _⟩
    rfl
  rintro f cdv A outer s H vs Q E free hr ⟨a, ns, k, rfl, hS, k0, bits, q⟩
  refine ⟨_, (pss_cons (ps_if (pt_cmpR op_lt (pv 1) (pe_callB call_len_seq (by rfl) T.len (by decide +kernel) (pa_cons (pv 0) pa_nil)) (nomark _))
    (pss_one (ps_ret (pe_ix ix_list (pv 0) (pv 1) (fun _ _ => rfl))))
    pss_nil)
    (pss_one (ps_ret pe_int))), ?_⟩
  refine ⟨_, rfl, _, rfl, a, _, rfl, .inl hS, _, _, rfl, rfl, _, rfl, ?_⟩
  refine ite2 (fun c => ?_) (fun c => ?_)
  · have c' : k < (((ns.map V.int).length : Nat) : Int) := of_decide_eq_true c
    rw [List.length_map] at c'
    have hk : k.toNat < ns.length := by omega
    have at_ : atI (ns.map V.int) k = some (.int ns[k.toNat]) := by
      have := atI_nat (xs := ns.map V.int) (j := k.toNat) (v := .int ns[k.toNat]) (by rw [List.getElem?_map, List.getElem?_eq_getElem hk]; rfl)
      rwa [show ((k.toNat : Nat) : Int) = k by omega] at this
    exact ⟨_, rfl, _, rfl, a, _, _, _, rfl, rfl, hS, at_, q _ (bits _ (List.getElem_mem hk))⟩
  · exact q _ (by decide)
/-! ### _law_cells -/
theorem cut_ints (ns : List Int) (lo hi : Option Int) : ∃ ms : List Int, cutV (ns.map V.int) lo hi = ms.map V.int ∧ ms.length ≤ ns.length ∧ ∀ x ∈ ms, x ∈ ns := by
  unfold cutV
  rw [← List.map_drop, ← List.map_take]
  exact ⟨_, rfl, Nat.le_trans (List.length_take_le' _ _) (by rw [List.length_drop]; omega), fun x hx => List.mem_of_mem_drop (List.mem_of_mem_take hx)⟩
theorem bits_small {z : Int} (h : z.natAbs < 2 ^ 64) : Builtin.Int.intBits z ≤ 1048576 := Nat.le_trans (PyProof.Rows.intBits_le h) (by decide)
def spCells (K : PySem.W.Frag) : Sp := fun vs H Q _ => ∃ (a : Addr) (ns : List Int), vs = [.ref a, .int 2] ∧ SqL K H a (ns.map V.int) ∧ ns.length ≤ 63 ∧ (∀ z ∈ ns, Builtin.Int.intBits z ≤ 1048576) ∧
  ∀ (l : Addr) (H' : Hp) (cs : List Int), H l = none → Same H H' → H' l = some (.lst (cs.map V.int)) → cs.length ≤ 63 → (∀ z ∈ cs, Builtin.Int.intBits z ≤ 1048576) → Q (.ref l) H'
theorem sc_law_cells : FnScope ["script", "start", "found", "k"] ["script", "start"] (defScope s_law_cells) :=
  ⟨rfl, rfl, rfl, by decide +kernel, rfl, by decide +kernel, by decide +kernel⟩
theorem ok_cells (F : Fn K mg "_law_cells" s_law_cells) (T : BlD mg) : Cal P w K mg base "_law_cells" 1 ["script", "start"] (spCells K) := by
  refine cal_of F sc_law_cells
    (fun _ _ _ _ _ _ us hl => match us, hl with | [_, _], _ => rfl) ?_ ?_
  · rintro vs H Q E ⟨a, ns, rfl, _⟩
    rfl
  rintro f cdv A outer s H vs Q E free hr ⟨a, ns, rfl, hS, len, bits, q⟩
  refine ⟨_, (pss_cons (ps_set (i := 2) sc_law_cells.nd rfl (Or.inl rfl) (pe_callTy call_list_of (by rfl) T.list (by decide +kernel) (pa_cons (pe_slice sl_list (pv 0) (po_some (pv 1)) (po_some pe_int)) pa_nil)))
    (pss_cons (ps_for PassesOwn.never rfl (pi_range2 (by rfl) T.range (pa_cons (pe_callB call_len_seq (by rfl) T.len (by decide +kernel) (pa_cons (pv 2) pa_nil)) (pa_cons pe_int pa_nil))) (pg_name (i := 3) sc_law_cells.nd rfl (Or.inl rfl))
    (pss_one (ps_expr (pe_bm PySem.F.plainAttrs_list PySem.F.slot_list_append PySem.F.type_list_append mt_append (pv 2) (pa_cons (pe_op op_add (pe_op op_mul (pe_op op_mod (pe_callB (cr_sum (by rfl)) (by rfl) T.sum (by decide +kernel) (pa_cons (pe_slice sl_list (pv 0) po_none (po_some pe_int)) pa_nil)) pe_int) pe_int) (pe_op op_mul pe_int (pe_op op_add (pv 3) pe_int))) pa_nil)))))
    (pss_one (ps_ret (pv 2))))), ?_⟩
  obtain ⟨ms, em, lm, sub⟩ := cut_ints ns (some 2) (some 63)
  have bm : ∀ z ∈ ms, Builtin.Int.intBits z ≤ 1048576 := fun z hz => bits z (sub z hz)
  refine ⟨_, rfl, _, rfl, _, rfl, _, rfl, a, _, rfl, hS, ?_⟩
  intro s1 h1
  rw [em]
  refine ⟨s1, _, rfl, .inl (SqL.of upd_same), ?_⟩
  intro l hl
  have hl0 : H l = none := by
    by_cases z : l = s1
    · rw [z]; exact h1
    · rw [upd_ne z] at hl; exact hl
  have s2 : Same H (upd (upd H s1 (.lst (ms.map V.int))) l (.lst (ms.map V.int))) := (same_upd h1).trans (same_upd hl)
  have hlm : (ms.map V.int).length = ms.length := List.length_map _
  refine ⟨_, rfl, l, _, rfl, .inl (SqL.of upd_same), _, _, rfl, ⟨by omega, by omega, by omega, by omega⟩, ?_⟩
  obtain ⟨ms2, em2, lm2, sub2⟩ := cut_ints ns none (some 63)
  refine for_range (lo := _) (n := _) (fun i σ G => (∃ k : Option V, σ = [some (V.ref a), some (V.int 2), some (V.ref l), k]) ∧ ∃ cs : List Int, G l = some (.lst (cs.map V.int)) ∧ Same H G ∧ cs.length = ms.length + i ∧
    ∀ z ∈ cs, Builtin.Int.intBits z ≤ 1048576) ⟨⟨_, rfl⟩, ms, upd_same, s2, rfl, bm⟩ ?_ ?_
  · rintro i σ G hi ⟨⟨k, rfl⟩, cs, hG, sG, lc, bc⟩
    have i20 : i < 20 := by omega
    refine ⟨_, rfl, .inl ⟨rfl, _, SqL.of hG⟩, _, rfl, _, rfl, a, _, rfl, sG.seq hS, ?_⟩
    intro s3 h3
    rw [em2]
    refine ⟨s3, ms2, rfl, SqL.of upd_same, ?_⟩
    generalize ms2.sum = su
    refine ⟨_, _, rfl, rfl, (by show (0 : Int) < 1000003; decide), _, _, rfl, rfl, .inr ⟨by decide, by decide⟩, _, rfl, _, _, rfl, rfl, _, _, rfl, rfl, .inl ⟨by decide, by decide⟩, _, _, rfl, rfl, ?_⟩
    have ls : l ≠ s3 := ne_of_none hG h3
    refine ⟨l, _, _, rfl, rfl, by rw [upd_ne ls]; exact hG, by rw [List.length_map]; exact Nat.lt_of_lt_of_le (show cs.length < 100 by omega) (by decide), ?_⟩
    refine ⟨⟨_, rfl⟩, cs ++ [su % 1000003 * 48271 + 104729 * ((((ms.map V.int).length : Nat) : Int) + (i : Int) + 1)], ?_, ?_, by rw [List.length_append, List.length_singleton]; omega, fun z hz => ?_⟩
    · rw [upd_same, List.map_append]; rfl
    · intro b o e
      have nb : b ≠ l := by intro z; rw [z, hl0] at e; cases e
      rw [upd_ne nb]
      exact same_upd h3 _ _ (sG _ _ e)
    · rcases List.mem_append.mp hz with h | h
      · exact bc z h
      · rw [List.mem_singleton.mp h]
        have m0 : 0 ≤ su % 1000003 := Int.emod_nonneg _ (by decide)
        have m1 : su % 1000003 < 1000003 := Int.emod_lt_of_pos _ (by decide)
        exact bits_small (by omega)
  · rintro σ G ⟨⟨k, rfl⟩, cs, hG, sG, lc, bc⟩
    exact ⟨_, rfl, q l G cs hl0 sG hG (by omega) bc⟩
end
section
variable {P : Program} {w : World} {K : PySem.W.Frag} {mg : Str → Option Value} {base : Heap} {C : Addr}
/-! ### the sets -/
def othL (me : Int) : List Int := ((List.range 9).map fun x : Nat => (x : Int)).filter fun x => !decide (x = me)
theorem othL_ok {me : Int} (h0 : 0 ≤ me) (h1 : me < 9) : (othL me).length = 8 ∧ (othL me).Pairwise (· < ·) ∧ ∀ x ∈ othL me, 0 ≤ x ∧ x < 9 := by
  have : me = 0 ∨ me = 1 ∨ me = 2 ∨ me = 3 ∨ me = 4 ∨ me = 5 ∨ me = 6 ∨ me = 7 ∨ me = 8 := by omega
  rcases this with rfl | rfl | rfl | rfl | rfl | rfl | rfl | rfl | rfl <;> decide
def SetsOk (S : List (List Int)) : Prop := S.length ≤ 5 ∧ ∀ one ∈ S, one ≠ [] ∧ one.Pairwise (· < ·) ∧ one.length ≤ 8 ∧ ∀ x ∈ one, 0 ≤ x ∧ x < 9
def spSets (K : PySem.W.Frag) : Sp := fun vs H Q _ => ∃ (c me : Int), vs = [.int c, .int me] ∧ Builtin.Int.intBits c ≤ 1048576 ∧ 0 ≤ me ∧ me < 9 ∧
  ∀ l tas S H', H l = none → Same H H' → H' l = some (.lst (tas.map V.ref)) → Tups K H' tas S → SetsOk S → Q (.ref l) H'
def setsD (S : List (List Int)) : List PyData := S.map fun one => PyData.tuple (one.map PyData.int)
theorem tups_data {H : Hp} : ∀ {tas : List Addr} {S : List (List Int)}, Tups K H tas S → DpAll K H (tas.map V.ref) (setsD S)
  | [], [], _ => .nil
  | [], _ :: _, h => by have := h.1; simp at this
  | _ :: _, [], h => by have := h.1; simp at this
  | t :: tas, one :: S, h => .cons (.tup (h.2 0 t one rfl rfl) (dps_ints one)) (tups_data ⟨by have := h.1; simpa using this, fun i a b h1 h2 => h.2 (i + 1) a b h1 h2⟩)
theorem shaped_sets (S : List (List Int)) : SeqAt.shaped (.list (setsD S)) = true := by
  have lay : ∀ S : List (List Int), PyData.canLayAll0 (S.map fun one => PyData.tuple (one.map PyData.int)) = true := fun S => by
    induction S with
    | nil => simp [PyData.canLayAll0]
    | cons n S ih => simp [PyData.canLayAll0, PyData.canLay0, lay_ints n, ih]
  have deep : ∀ S : List (List Int), PyData.depthAll (S.map fun one => PyData.tuple (one.map PyData.int)) ≤ 1 := fun S => by
    induction S with
    | nil => simp [PyData.depthAll]
    | cons n S ih =>
      simp [PyData.depthAll, PyData.depth, deep_ints n]
      omega
  show ((PyData.list (S.map fun one => PyData.tuple (one.map PyData.int))).canLay0 && decide ((PyData.list (S.map fun one => PyData.tuple (one.map PyData.int))).depth ≤ 64)) = true
  have := deep S
  simp [PyData.canLay0, PyData.depth, lay]
  omega
theorem shaped_itup (n : List Int) : SeqAt.shaped (.tuple (n.map PyData.int)) = true := by
  show ((PyData.tuple (n.map PyData.int)).canLay0 && decide ((PyData.tuple (n.map PyData.int)).depth ≤ 64)) = true
  simp [PyData.canLay0, PyData.depth, lay_ints, deep_ints]
theorem lst_no {xs : List V} : (∀ ys, (HO.lst xs) ≠ .tup ys) ∧ ∀ u ys, (HO.lst xs) ≠ .frz u ys := ⟨(fun _ z => nomatch z), (fun _ _ z => nomatch z)⟩
theorem tups_mut {H H' : Hp} {q : Addr} {o : HO} (hq : H q = some o) (no : (∀ xs, o ≠ .tup xs) ∧ ∀ u xs, o ≠ .frz u xs) (c : Chg q H H') {tas : List Addr} {S : List (List Int)} (h : Tups K H tas S) : Tups K H' tas S := ⟨h.1, fun i t one a b => sqt_mut hq no c (h.2 i t one a b)⟩
theorem tups_same {H H' : Hp} (c : Same H H') {tas : List Addr} {S : List (List Int)} (h : Tups K H tas S) : Tups K H' tas S := ⟨h.1, fun i t one a b => sqt_same c (h.2 i t one a b)⟩
theorem tups_snoc {H : Hp} {tas : List Addr} {S : List (List Int)} {t : Addr} {one : List Int} (h : Tups K H tas S) (ht : SqT K H t (one.map V.int)) : Tups K H (tas ++ [t]) (S ++ [one]) := by
  refine ⟨by rw [List.length_append, List.length_append, h.1]; rfl, fun i a b h1 h2 => ?_⟩
  rcases Nat.lt_or_ge i tas.length with c | c
  · rw [List.getElem?_append_left c] at h1
    rw [List.getElem?_append_left (by rw [← h.1]; exact c)] at h2
    exact h.2 i a b h1 h2
  · rw [List.getElem?_append_right c] at h1
    rw [List.getElem?_append_right (by rw [← h.1]; exact c), ← h.1] at h2
    cases e : i - tas.length with
    | zero =>
      rw [e] at h1 h2
      cases h1
      cases h2
      exact ht
    | succ n => rw [e] at h1; simp at h1
theorem sc_law_sets : FnScope ["cell", "me", "others", "seat", "sets", "bits", "one", "k"] ["cell", "me"] (defScope s_law_sets) :=
  ⟨rfl, rfl, rfl, by decide +kernel, rfl, by decide +kernel, by decide +kernel⟩
theorem ok_sets (F : Fn K mg "_law_sets" s_law_sets) (T : BlV mg) (C_draws : Cal P w K mg base "_law_draws" 1 ["cell", "tops"] spDraws) : Cal P w K mg base "_law_sets" 2 ["cell", "me"] (spSets K) := by
  refine cal_of F sc_law_sets
    (fun _ _ _ _ _ _ us hl => match us, hl with | [_, _], _ => rfl) ?_ ?_
  · rintro vs H Q E ⟨c, me, rfl, _⟩
    rfl
  rintro f cdv A outer s H vs Q E free hr ⟨c, me, rfl, hc, m0, m1, q⟩
  obtain ⟨lO, uO, aO⟩ := othL_ok m0 m1
  refine ⟨_, (pss_cons (ps_set (i := 2) sc_law_sets.nd rfl (Or.inr rfl) (pe_lc (own := [("seat", 3)]) (g := gName 3)  (by rfl) sc_law_sets.nd (pi_range1 (by rfl) T.range (pa_cons pe_int pa_nil)) (blkOk_by (N := ["cell", "me", "others", "seat", "sets", "bits", "one", "k"]) (sc := defScope s_law_sets) (by decide +kernel)) (fun _ _ _ _ _ => pg_name (i := 3) sc_law_sets.nd rfl (Or.inl rfl)) (fun _ _ _ _ _ => pts_one (pt_cmpR op_ne (pv 3) (pv 1) (nomark _))) (fun _ _ _ _ _ => (pv 3))))
    (pss_cons (ps_set (i := 4) sc_law_sets.nd rfl (Or.inl rfl) (pe_lst pa_nil))
    (pss_cons (ps_for PassesOwn.never rfl (pi_list (pe_cal C_draws free (hr.mono (by decide)) (pa_cons (pv 0) (pa_cons (pe_lst (pa_cons pe_int (pa_cons pe_int (pa_cons pe_int (pa_cons pe_int (pa_cons pe_int pa_nil)))))) pa_nil)))) (pg_name (i := 5) sc_law_sets.nd rfl (Or.inr rfl))
    (pss_cons (ps_set (i := 6) sc_law_sets.nd rfl (Or.inl rfl) (pe_callTy call_tuple_of (by rfl) T.tuple (by decide +kernel) (pa_cons (pe_lc (own := [("k", 7)]) (g := gName 7)  (by rfl) sc_law_sets.nd (pi_range1 (by rfl) T.range (pa_cons pe_int pa_nil)) (blkOk_by (N := ["cell", "me", "others", "seat", "sets", "bits", "one", "k"]) (sc := defScope s_law_sets) (by decide +kernel)) (fun _ _ _ _ _ => pg_name (i := 7) sc_law_sets.nd rfl (Or.inl rfl)) (fun _ _ _ _ _ => pts_one (pt_cmpR op_eq (pe_op op_mod (pe_op op_shr (pv 5) (pv 7)) pe_int) pe_int (nomark _))) (fun _ _ _ _ _ => (pe_ix (ix_listK K) (pv 2) (pv 7) (fun _ _ => rfl)))) pa_nil)))
    (pss_one (ps_if (PW.pt (pw_and (pt_cmpR (op_neD (u64 hr)) (pv 6) (pe_tup pa_nil) (nomark _)) (pw_and1 (pt_cmpR (op_notInD (u65 hr)) (pv 6) (pv 4) (by rfl)))))
    (pss_one (ps_expr (pe_bm PySem.F.plainAttrs_list PySem.F.slot_list_append PySem.F.type_list_append mt_append (pv 4) (pa_cons (pv 6) pa_nil))))
    pss_nil))))
    (pss_one (ps_ret (pv 4)))))), ?_⟩
  refine ⟨_, rfl, by decide, by decide, fun D hD => ?_⟩
  refine lc_range (lo := 0) (n := 9) (fun i G => Same H G ∧ G D = some (.lst ((((List.range i).map fun x : Nat => (x : Int)).filter fun x => !decide (x = me)).map V.int))) ⟨same_upd hD, upd_same⟩ ?_ ?_
  · rintro i G hi ⟨sG, kD⟩
    refine ⟨rfl, _, rfl, _, rfl, rfl, _, rfl, ?_⟩
    rw [dec_ii, Int.zero_add]
    refine ite2 (fun c2 => ?_) (fun c2 => ?_)
    · refine ⟨_, rfl, _, kD, ?_, fun b o e => ?_, ?_⟩
      · rw [List.length_map]
        exact Nat.lt_of_le_of_lt (List.length_filter_le ..) (by rw [List.length_map, List.length_range]; exact Nat.lt_of_lt_of_le (show i < 100 by omega) (by decide))
      · rw [upd_ne (ne_of_none e hD)]
        exact sG _ _ e
      · rw [List.range_succ, List.map_append, List.filter_append, List.map_cons, List.map_nil, List.filter_cons, if_pos c2, List.filter_nil, List.map_append]
        exact upd_same
    · refine ⟨sG, ?_⟩
      rw [List.range_succ, List.map_append, List.filter_append, List.map_cons, List.map_nil, List.filter_cons, if_neg c2, List.filter_nil, List.append_nil]
      exact kD
  rintro G ⟨sG, kD⟩
  have kO : G D = some (.lst ((othL me).map V.int)) := kD
  refine ⟨Nat.zero_le _, fun L hL => ?_⟩
  have s1 := same_upd (o := .lst []) hL
  refine ⟨_, rfl, by show 5 ≤ sizeLine; decide, fun tA htA => ?_⟩
  have s2 := same_upd (o := .lst [.int 256, .int 256, .int 256, .int 256, .int 256]) htA
  refine ⟨tA, c, [256, 256, 256, 256, 256], rfl, upd_same, hc, fun x hx => ?_, by decide, fun l ds hl lds bl => ?_⟩
  · simp at hx
    subst hx
    exact ⟨by decide, by decide⟩
  have s3 := same_upd (o := .lst (ds.map V.int)) hl
  obtain ⟨G3, e3⟩ : ∃ G3, G3 = upd (upd (upd G L (.lst [])) tA (.lst [.int 256, .int 256, .int 256, .int 256, .int 256])) l (.lst (ds.map V.int)) := ⟨_, rfl⟩
  have kL : G3 L = some (.lst []) := by rw [e3]; exact s3 _ _ (s2 _ _ upd_same)
  have kl : G3 l = some (.lst (ds.map V.int)) := by rw [e3]; exact upd_same
  have sA : Same G G3 := by rw [e3]; exact s1.trans (s2.trans s3)
  have sH := sG.trans sA
  have nL : H L = none := sG.free hL
  have lL : l ≠ L := (ne_of_none (s2 _ _ upd_same) hl).symm
  have DL : D ≠ L := ne_of_none kO hL
  rw [← e3]
  refine ⟨l, rfl, ⟨_, SqL.of kl⟩, ?_⟩
  refine for_list (K := K) (a := l) (xs := ds.map V.int) (fun i σ G' => (∃ z3 z5 z6 z7 : Option V, σ = [some (V.int c), some (V.int me), some (V.ref D), z3, some (V.ref L), z5, z6, z7]) ∧ Chg L G3 G' ∧ ∃ tas S, G' L = some (.lst (tas.map V.ref)) ∧ Tups K G' tas S ∧ S.length ≤ i ∧ ∀ one ∈ S, one ≠ [] ∧ one.Pairwise (· < ·) ∧ one.length ≤ 8 ∧ ∀ x ∈ one, 0 ≤ x ∧ x < 9)
    ⟨⟨_, _, _, _, rfl⟩, Chg.refl L G3, [], [], kL, ⟨rfl, fun i t one h => by simp at h⟩, Nat.le_refl _, fun one h => by simp at h⟩ (fun i σ G' _ h => SqL.of (h.2.1 _ _ lL kl)) ?_ ?_
  · rintro i x σ G' hx ⟨⟨z3, z5, z6, z7, rfl⟩, cG, tas, S, kL', hT, lS, okS⟩
    obtain ⟨bt, hbt, rfl⟩ : ∃ y, ds[i]? = some y ∧ x = .int y := by
      rw [List.getElem?_map] at hx
      cases z : ds[i]? with
      | none => rw [z] at hx; cases hx
      | some y => rw [z] at hx; exact ⟨y, rfl, (Option.some.inj hx).symm⟩
    have i5 : i < 5 := by
      have := (List.getElem?_eq_some_iff.mp hbt).1
      rw [lds] at this
      exact this
    have kO' : G' D = some (.lst ((othL me).map V.int)) := cG _ _ DL (sA _ _ kO)
    refine ⟨_, rfl, by decide, by decide, fun D2 hD2 => ?_⟩
    refine lc_range (lo := 0) (n := 8) (fun j G2 => Same G' G2 ∧ ∃ zs : List Int, G2 D2 = some (.lst (zs.map V.int)) ∧ zs.Sublist ((othL me).take j)) ⟨same_upd hD2, [], upd_same, List.nil_sublist _⟩ ?_ ?_
    · rintro j G2 hj ⟨sG2, zs, kD2, sub⟩
      have hoj : (othL me)[j]? = some ((othL me)[j]'(by rw [lO]; exact hj)) := List.getElem?_eq_getElem _
      have lz : zs.length ≤ 8 := by
        have := sub.length_le
        rw [List.length_take] at this
        omega
      refine ⟨rfl, _, rfl, _, rfl, _, _, rfl, rfl, (by show (0 : Int) ≤ 0 + (j : Int); omega), _, _, rfl, rfl, (by show (0 : Int) < 2; decide), rfl, _, rfl, ?_⟩
      rw [List.take_add_one, hoj]
      refine ite2 (fun c2 => ?_) (fun c2 => ?_)
      · refine ⟨_, rfl, _, rfl, D, _, _, _, rfl, rfl, SqL.of (sG2 _ _ kO'), ?_, _, kD2, ?_, fun b o e => ?_, zs ++ [(othL me)[j]'(by rw [lO]; exact hj)], by rw [upd_same, List.map_append]; rfl, ?_⟩
        · rw [Int.zero_add]
          exact atI_nat (v := V.int ((othL me)[j]'(by rw [lO]; exact hj))) (by rw [List.getElem?_map, hoj]; rfl)
        · rw [List.length_map]
          exact Nat.lt_of_lt_of_le (show zs.length < 100 by omega) (by decide)
        · rw [upd_ne (ne_of_none e hD2)]
          exact sG2 _ _ e
        · exact sub.append (List.Sublist.refl _)
      · exact ⟨sG2, zs, kD2, sub.trans (List.sublist_append_left _ _)⟩
    rintro G2 ⟨sG2, zs, kD2, sub⟩
    rw [show (othL me).take 8 = othL me from List.take_of_length_le (Nat.le_of_eq lO)] at sub
    have lz : zs.length ≤ 8 := by
      have := sub.length_le
      omega
    refine ⟨D2, _, rfl, .inl ⟨SqL.of kD2, fun t ht => ?_⟩⟩
    have s5 := same_upd (o := .tup (zs.map V.int)) ht
    have kL5 := s5 _ _ (sG2 _ _ kL')
    have hT5 := tups_same (sG2.trans s5) hT
    refine ⟨_, rfl, Nat.zero_le _, fun u hu => ?_⟩
    have s6 := same_upd (o := .tup []) hu
    refine ⟨.tuple (zs.map PyData.int), .tuple [], .tup (SqT.of (s6 _ _ upd_same)) (dps_ints zs), .tup (SqT.of upd_same) .nil, shaped_itup _, shaped_itup [], _, rfl, ?_⟩
    have c6 : Chg L G3 (upd (upd G2 t (.tup (zs.map V.int))) u (.tup [])) := cG.trans (Chg.same (sG2.trans (s5.trans s6)))
    have kL6 := s6 _ _ kL5
    have hT6 := tups_same s6 hT5
    refine ite2 (fun c3 => ?_) (fun c3 => ?_)
    · have nz : zs ≠ [] := fun z => by
        subst z
        simp [PyData.eqv, PyData.eqvAll] at c3
      refine ⟨_, rfl, _, rfl, .tuple (zs.map PyData.int), setsD S, .tup (SqT.of (s6 _ _ upd_same)) (dps_ints zs), .lst (SqL.of kL6) (tups_data hT6), shaped_itup _, shaped_sets _, _, rfl, ?_⟩
      refine ite2 (fun c4 => ?_) (fun c4 => ?_)
      · refine ⟨_, rfl, .inl ⟨rfl, _, SqL.of kL6⟩, _, rfl, L, _, _, rfl, rfl, kL6, by rw [List.length_map, hT6.1]; exact Nat.lt_of_lt_of_le (show S.length < 100 by omega) (by decide), ?_⟩
        have hT7 := tups_mut kL6 lst_no (Chg.self (o := .lst (tas.map V.ref ++ [.ref t]))) hT6
        have ht7 : SqT K (upd (upd (upd G2 t (.tup (zs.map V.int))) u (.tup [])) L (.lst (tas.map V.ref ++ [.ref t]))) t (zs.map V.int) := sqt_mut kL6 lst_no Chg.self (SqT.of (s6 _ _ upd_same))
        refine ⟨⟨_, _, _, _, rfl⟩, c6.trans Chg.self, tas ++ [t], S ++ [zs], by rw [upd_same, List.map_append]; rfl, tups_snoc hT7 ht7, by rw [List.length_append, List.length_singleton]; omega, fun one h => ?_⟩
        rcases List.mem_append.mp h with h | h
        · exact okS one h
        · rw [List.mem_singleton.mp h]
          exact ⟨nz, uO.sublist sub, lz, fun x hx => aO x (sub.subset hx)⟩
      · exact ⟨⟨_, _, _, _, rfl⟩, c6, tas, S, kL6, hT6, by omega, okS⟩
    · exact ⟨⟨_, _, _, _, rfl⟩, c6, tas, S, kL6, hT6, by omega, okS⟩
  · rintro σ G' ⟨⟨z3, z5, z6, z7, rfl⟩, cG, tas, S, kL', hT, lS, okS⟩
    rw [List.length_map, lds] at lS
    refine ⟨_, rfl, q L tas S G' nL (fun b o e => cG _ _ (ne_of_none e nL) (sH _ _ e)) kL' hT ⟨lS, okS⟩⟩
end

end G0
namespace G0
open PySem PySem.Spec PyProof.Rows L2 NdefX ClX
theorem hu_of {k : Nat} {A : Around} (hr : Room k A) : A.units + 1 < cLine := by have := hr.un; omega
section
variable {X : Cx} {CX : CXT} {k : Nat} {f C : Addr} {fd : FuncData} {ps : List Str} {sp : Sp} {E : L2.St → XK} {m : Str} {pos apos : Pos} {o : Expr} {ta : TE}
/-- o.m() of a def that may raise, at the slots -/
def tMeth0S (C : Addr) (m : Str) (sp : Sp) (E : L2.St → XK) (ta : TE) : TE := fun σ H Q => ta σ H fun x H1 => ∃ a dx fs, x = .ref a ∧ H1 a = some (.ins C dx fs) ∧ fs.lookup m = none ∧ sp [.ref a] H1 Q (E σ)
theorem pe_meth0S {pl : Sem Bool} (he : PE X o ta) (c : Cls X.K C) (hm : Meth X.K C m f) (F : FnOk X.prog X.w X.K X.mg X.base CX k f fd ps sp) (hr : Room k X.A) (hb : Binds X.K fd ps []) (hx : ∀ σ, PassesAt CX X σ (E σ))
    (ht : eval (.Call (.Attribute o m apos) [] [] pos) X.env = (do
      let ov ← eval o X.env
      standAt apos.atName
      let (f, first) ← holding [ov] (getMethod ov m pl)
      callWith pos f first (backTo pos (starEach [] X.env)) (backToKw pos (keywordEach [] X.env))) := by rfl) :
    PE X (.Call (.Attribute o m apos) [] [] pos) (tMeth0S C m sp E ta) := by
  refine ⟨fun pins s σ H Q I h => ?_⟩
  refine PySem.W.methodCall_KW (pl := pl) (thn (he.run pins s σ H _ I h) fun u s1 ⟨x, H1, I1, rx, a, dx, fs, ex, ea, l, q⟩ => ?_) ht
  subst ex
  obtain rfl : u = Value.ref a := rx
  refine getmeth_ok I1 ea c hm l ?_
  exact PySem.W.callWith_K0 (first := [.ref a]) I1.kIn hm.kp (run_fnS (us := [.ref a]) (vs := [.ref a]) F hr hb (hx σ) I1 (.cons rfl .nil) q)
end
section
variable {P : Program} {w : World} {K : PySem.W.Frag} {mg : Str → Option Value} {base : Heap} {C CB : Addr}
/-! ### refused, looked at -/
def spRefV (K : PySem.W.Frag) (C : Addr) : Sp := fun vs H Q _ => ∃ (p dx sa : Addr) (me cnt fst : Int) (stt : Str) (stp : Option Int) (hs ss : List Int), vs = [.ref p, .int me] ∧ VoAt K H C p dx sa me stt cnt stp hs [] fst ss ∧ ∀ H', Same H H' → Q (.bl true) H'
theorem sc_law_refused : FnScope ["voter", "me", "seat", "e"] ["voter", "me"] (defScope s_law_refused) :=
  ⟨rfl, rfl, rfl, by decide +kernel, rfl, by decide +kernel, by decide +kernel⟩
theorem ok_refV (F : Fn K mg "_law_refused" s_law_refused) (T : BlV mg) (VT : VoT K C) (XB : XT P w K mg base CB "Barred" "seat") (ex : PySem.W.exmOne K (.ref CB) (.ref CB) = some true) (MA : Me P w K mg base (L2.CX P w) C "ask" 3 ["self"] (spAskV K C CB))
    (C_same : Cal P w K mg base "_law_same" 4 ["found", "due"] (spSameD K 3)) : Cal P w K mg base "_law_refused" 5 ["voter", "me"] (spRefV K C) := by
  obtain ⟨fA, fdA, GA, bA, mA⟩ := MA
  have gB := XB.g
  refine cal_of F sc_law_refused
    (fun _ _ _ _ _ _ us hl => match us, hl with | [_, _], _ => rfl) ?_ ?_
  · rintro vs H Q E ⟨p, _, _, _, _, _, _, _, _, _, rfl, _⟩
    rfl
  rintro f cdv A outer s H vs Q E free hr ⟨p, dx, sa, me, cnt, fst, stt, stp, hs, ss, rfl, VA, q⟩
  obtain ⟨stpV, hnd, knw, dsk, sett, tas, R⟩ := id VA
-- [(0, 'voter'), (1, 'me'), (2, 'seat'), (3, 'e')]
  refine ⟨_, (pss_cons (ps_set (i := 2) sc_law_refused.nd rfl (Or.inl rfl) pe_non)
    (pss_cons (ps_try_as (i := 3) rfl rfl sc_law_refused.nd rfl rfl ⟨rfl, by decide, .inl gB⟩ takes0 (fun W pn xe tk _ => (pss_one (ps_expr (pe_meth0S (pv 0) VT.cl mA GA (hr.mono (by decide)) bA (fun σ => passAt tk σ)))))
    (fun a oe cls d pn hz hf => (pss_one (ps_set (i := 2) sc_law_refused.nd rfl (Or.inl rfl) (pe_xf XB.xf XB.xc.no hz hf (pv 3))))))
    (pss_one (ps_ret (pe_cal C_same free (hr.mono (by decide)) (pa_cons (pv 2) (pa_cons (pv 1) pa_nil))))))), ?_⟩
  refine ⟨_, rfl, p, dx, _, rfl, R.hp, (voF_no _ _ _ _ _ _ _ _ _ _ _ (by decide +kernel) (by decide +kernel) (by decide +kernel) (by decide +kernel) (by decide +kernel) (by decide +kernel) (by decide +kernel) (by decide +kernel) (by decide +kernel) (by decide +kernel) (by decide +kernel)), p, dx, sa, me, cnt, fst, stt, stp, hs, ss, [], rfl, VA, by decide, fun one h => by simp at h, fun _ d H1 s1 hd => ?_, fun j one _ hj => by simp at hj⟩
  refine ⟨true, ex, fun _ a0 ha0 => ?_, fun z => nomatch z⟩
  refine ⟨_, rfl, rfl, rfl, d, [("seat", .int me)], .int me, rfl, upd_same, List.lookup_cons_self, ?_⟩
  exact ⟨_, rfl, _, rfl, .int me, .int me, rfl, .inl ⟨.int me, .int _, .int _, .int _⟩, q _ (s1.trans (same_upd hd))⟩
theorem lv_stp (me : Int) (o : Option Int) : Lv 3 (stpD me o) := by
  cases o with
  | none => exact .non
  | some c =>
    refine .tup (by show 3 < 10000; decide) fun d hd => ?_
    simp only [List.mem_cons, List.not_mem_nil, or_false] at hd
    rcases hd with rfl | rfl | rfl <;> exact .int _
theorem lv_itup {n : List Int} (h : n.length < 10000) : Lv 3 (.tuple (n.map PyData.int)) := .tup (by rw [List.length_map]; exact h) fun d hd => by
  obtain ⟨x, _, rfl⟩ := List.mem_map.mp hd
  exact .int _
/-- what the law keeps of the voter, as far as it is looked at -/
structure BoxL (K : PySem.W.Frag) (H : Hp) (b ha : Addr) (kvs : List (Key × V)) (me : Int) (stt : Str) (stp : Option Int) (hb : List Int) (cnt : Int) (bg : V) : Prop where
  at_ : H b = some (.dK kvs)
  st : valV kvs (kS "state") = some (.str stt)
  sp : ∃ v, valV kvs (kS "stamp") = some v ∧ Dp K H v (stpD me stp)
  hd : valV kvs (kS "hand") = some (.ref ha)
  cn : valV kvs (kS "count") = some (.int cnt)
  bg : valV kvs (kS "begin") = some bg
  hh : H ha = some (.lst (hb.map V.int))
theorem BoxL.same {H H' : Hp} {b ha : Addr} {kvs : List (Key × V)} {me : Int} {stt : Str} {stp : Option Int} {hb : List Int} {cnt : Int} {bg : V} (B : BoxL K H b ha kvs me stt stp hb cnt bg) (s : Same H H') : BoxL K H' b ha kvs me stt stp hb cnt bg :=
  { B with at_ := s _ _ B.at_, sp := by obtain ⟨v, e, d⟩ := B.sp; exact ⟨v, e, dp_same s _ _ d⟩, hh := s _ _ B.hh }
def spLooksV (K : PySem.W.Frag) (C : Addr) : Sp := fun vs H Q _ => ∃ (p dx sa b ha : Addr) (me cnt fst : Int) (stt : Str) (stp : Option Int) (hs ss hb : List Int) (S : List (List Int)) (kvs : List (Key × V)) (bg : V), vs = [.ref p, .ref b] ∧ VoAt K H C p dx sa me stt cnt stp hs S fst ss ∧ BoxL K H b ha kvs me stt stp hb cnt bg ∧
  S.length ≤ 1000 ∧ (∀ one ∈ S, one.length ≤ 1000) ∧ hb.length < 50 ∧ hb.Nodup ∧ hs.Pairwise (· < ·) ∧ (∀ x : Int, x ∈ hs ↔ x ∈ hb) ∧ ((S = [] ∧ bg = .non) ∨ (S ≠ [] ∧ bg = .int (fst % (S.length : Int)))) ∧ ∀ H', Same H H' → Q (.bl true) H'
theorem up_eq : ∀ {a b : List Int}, a.Pairwise (· < ·) → b.Pairwise (· < ·) → (∀ x, x ∈ a ↔ x ∈ b) → a = b
  | [], [], _, _, _ => rfl
  | [], y :: b, _, _, h => by have := (h y).mpr (List.mem_cons_self ..); simp at this
  | x :: a, [], _, _, h => by have := (h x).mp (List.mem_cons_self ..); simp at this
  | x :: a, y :: b, ha, hb, h => by
    obtain ⟨a1, a2⟩ := List.pairwise_cons.mp ha
    obtain ⟨b1, b2⟩ := List.pairwise_cons.mp hb
    have e : x = y := by
      rcases List.mem_cons.mp ((h x).mp (List.mem_cons_self ..)) with e | m
      · exact e
      · rcases List.mem_cons.mp ((h y).mpr (List.mem_cons_self ..)) with e | m2
        · exact e.symm
        · have := a1 _ m2
          have := b1 _ m
          omega
    subst e
    rw [up_eq a2 b2 fun z => ?_]
    constructor
    · intro m
      rcases List.mem_cons.mp ((h z).mp (List.mem_cons_of_mem _ m)) with e | m2
      · subst e; exact absurd (a1 _ m) (Int.lt_irrefl _)
      · exact m2
    · intro m
      rcases List.mem_cons.mp ((h z).mpr (List.mem_cons_of_mem _ m)) with e | m2
      · subst e; exact absurd (b1 _ m) (Int.lt_irrefl _)
      · exact m2
theorem sc_law_looks : FnScope ["voter", "box"] ["voter", "box"] (defScope s_law_looks) :=
  ⟨rfl, rfl, rfl, by decide +kernel, rfl, by decide +kernel, by decide +kernel⟩
theorem ok_looksV (F : Fn K mg "_law_looks" s_law_looks) (T : BlV mg) (VT : VoT K C) (MF : Me P w K mg base CX0 C "free_set" 2 ["self"] (spFreeSet K C)) (C_same : Cal P w K mg base "_law_same" 4 ["found", "due"] (spSameD K 3)) : Cal P w K mg base "_law_looks" 5 ["voter", "box"] (spLooksV K C) := by
  obtain ⟨fF, fdF, GF, bF, mF⟩ := MF
  refine cal_of F sc_law_looks
    (fun _ _ _ _ _ _ us hl => match us, hl with | [_, _], _ => rfl) ?_ ?_
  · rintro vs H Q E ⟨p, _, _, b, _, _, _, _, _, _, _, _, _, _, _, _, rfl, _⟩
    rfl
  rintro f cdv A outer s H vs Q E free hr ⟨p, dx, sa, b, ha, me, cnt, fst, stt, stp, hs, ss, hb, S, kvs, bg, rfl, VA, B, lS, lO, lh, nd, up, mem, hbg, q⟩
  obtain ⟨stpV, hnd, knw, dsk, sett, tas, R⟩ := id VA
  obtain ⟨v, ev, dv⟩ := B.sp
  have hr2 : Room 2 _ := hr.mono (by decide)
  refine ⟨_, (pss_cons (ps_if (PW.pt (pw_or (pt_not (pt_val (pe_cal C_same free (hr.mono (by decide)) (pa_cons (pe_fld (pv 0) (by rfl)) (pa_cons (pe_dget (hu_of hr) (pv 1) pe_str (fun _ _ => rfl)) pa_nil))))) (pw_or1 (pt_not (pt_val (pe_cal C_same free (hr.mono (by decide)) (pa_cons (pe_fld (pv 0) (by rfl)) (pa_cons (pe_dget (hu_of hr) (pv 1) pe_str (fun _ _ => rfl)) pa_nil))))))))
    (pss_one (ps_ret pe_bl))
    pss_nil)
    (pss_cons (ps_if (PW.pt (pw_or (pt_not (pt_val (pe_cal C_same free (hr.mono (by decide)) (pa_cons (pe_fld (pv 0) (by rfl)) (pa_cons (pe_callTy call_tuple_of (by rfl) T.tuple (by decide +kernel) (pa_cons (pe_callB cr_sortedI (by rfl) T.sorted (by decide +kernel) (pa_cons (pe_dget (hu_of hr) (pv 1) pe_str (fun _ _ => rfl)) pa_nil)) pa_nil)) pa_nil))))) (pw_or1 (pt_not (pt_val (pe_cal C_same free (hr.mono (by decide)) (pa_cons (pe_fld (pv 0) (by rfl)) (pa_cons (pe_tup pa_nil) pa_nil))))))))
    (pss_one (ps_ret pe_bl))
    pss_nil)
    (pss_one (ps_ret (pe_and (pe_cal C_same free (hr.mono (by decide)) (pa_cons (pe_fld (pv 0) (by rfl)) (pa_cons (pe_dget (hu_of hr) (pv 1) pe_str (fun _ _ => rfl)) pa_nil))) (pe_one (pe_cal C_same free (hr.mono (by decide)) (pa_cons (pe_meth0 (pv 0) VT.cl mF GF hr2 bF .nil pass0) (pa_cons (pe_dget (hu_of hr) (pv 1) pe_str (fun _ _ => rfl)) pa_nil))))))))), ?_⟩
  refine ⟨_, rfl, p, C, dx, _, _, rfl, R.hp, VT.cl, VT.state, voF_stt _ _ _ _ _ _ _ _ _ _ _, _, rfl, b, _, rfl, .inl ⟨kvs, kS "state", .inl B.at_, rfl, B.st.symm⟩, _, _, rfl, .inl ⟨.str stt, .str _, .str _, .str _⟩, _, rfl, iteF' rfl ?_⟩
  refine ⟨_, rfl, p, C, dx, _, _, rfl, R.hp, VT.cl, VT.stamp, voF_stp _ _ _ _ _ _ _ _ _ _ _, _, rfl, b, _, rfl, .inl ⟨kvs, kS "stamp", .inl B.at_, rfl, ev.symm⟩, _, _, rfl, .inl ⟨stpD me stp, lv_stp _ _, R.hst, dv⟩, _, rfl, iteF' rfl ?_⟩
  refine ⟨_, rfl, p, C, dx, _, _, rfl, R.hp, VT.cl, VT.hand, voF_hnd _ _ _ _ _ _ _ _ _ _ _, _, rfl, b, _, rfl, .inl ⟨kvs, kS "hand", .inl B.at_, rfl, B.hd.symm⟩, ha, hb, rfl, SqL.of B.hh, fun us l pe le hl => ?_⟩
  have s1 := same_upd (o := .lst (us.map V.int)) hl
  refine ⟨l, _, rfl, .inl ⟨SqL.of upd_same, fun t ht => ?_⟩⟩
  have s2 := same_upd (o := .tup (us.map V.int)) ht
  have sA := s1.trans s2
  have eu : us = hs := up_eq ((pe.nodup_iff.mpr nd).imp₂ (fun ne le => by omega) le) up fun x => by rw [pe.mem_iff, mem]
  have hx := sqt_same sA R.hh
  rw [← eu] at hx
  have lu : us.length < 10000 := by rw [pe.length_eq]; omega
  refine ⟨_, _, rfl, .inl ⟨.tuple (us.map PyData.int), lv_itup lu, .tup hx (dps_ints us), .tup (SqT.of upd_same) (dps_ints us)⟩, _, rfl, iteF' rfl ?_⟩
  have R2 := R.same sA
  have B2 := B.same sA
  refine ⟨_, rfl, p, C, dx, _, _, rfl, R2.hp, VT.cl, VT.known, voF_knw _ _ _ _ _ _ _ _ _ _ _, Nat.zero_le _, fun t3 ht3 => ?_⟩
  have s3 := same_upd (o := .tup []) ht3
  have R3 := R2.same s3
  have B3 := B2.same s3
  refine ⟨_, _, rfl, .inl ⟨.tuple [], .tup (by decide) (fun d h => by simp at h), .tup R3.hk .nil, .tup (SqT.of upd_same) .nil⟩, _, rfl, iteF' rfl ?_⟩
  refine ⟨_, rfl, p, C, dx, _, _, rfl, R3.hp, VT.cl, VT.count, voF_cnt _ _ _ _ _ _ _ _ _ _ _, _, rfl, b, _, rfl, .inl ⟨kvs, kS "count", .inl B3.at_, rfl, B3.cn.symm⟩, _, _, rfl, .inl ⟨.int cnt, .int _, .int _, .int _⟩, _, rfl, iteT' rfl ?_⟩
  have hno := (voF_no me stt false cnt stpV hnd knw dsk sa fst sett (x := "free_set") (by decide +kernel) (by decide +kernel) (by decide +kernel) (by decide +kernel) (by decide +kernel) (by decide +kernel) (by decide +kernel) (by decide +kernel) (by decide +kernel) (by decide +kernel) (by decide +kernel))
  refine ⟨_, rfl, p, dx, _, rfl, R3.hp, hno, p, dx, sa, me, cnt, fst, stt, stp, hs, ss, S, rfl, R3.ex, lS, lO, fun e H4 s4 => ?_, fun e H4 s4 => ?_⟩
  · rcases hbg with ⟨_, rfl⟩ | ⟨n, _⟩
    · exact ⟨_, rfl, b, _, rfl, .inl ⟨kvs, kS "begin", .inl (s4 _ _ B3.at_), rfl, B3.bg.symm⟩, _, _, rfl, .inl ⟨.none, .non, .non, .non⟩, q _ (sA.trans (s3.trans s4))⟩
    · exact absurd e n
  · rcases hbg with ⟨n, _⟩ | ⟨_, rfl⟩
    · exact absurd n e
    · exact ⟨_, rfl, b, _, rfl, .inl ⟨kvs, kS "begin", .inl (s4 _ _ B3.at_), rfl, B3.bg.symm⟩, _, _, rfl, .inl ⟨.int _, .int _, .int _, .int _⟩, q _ (sA.trans (s3.trans s4))⟩
end

end G0
namespace G0
open PySem PySem.Spec PyProof.Rows L2 NdefX ClX
section
variable {P : Program} {w : World} {K : PySem.W.Frag} {mg : Str → Option Value} {base : Heap} {C : Addr}
/-! ### what stands between two deeds -/
structure HF (K : PySem.W.Frag) (C L b p dx sa se : Addr) (cs : List Int) (me fst : Int) (S : List (List Int)) (ss : List Int) (H : Hp) (sttV : Str) (cntV : Int) (stpV : Option Int) (hs vs : List Int) (ha oa la ta : Addr) (hb ob : List Int) (las : List Addr) (lt : List (List Int)) (tl : List Int) : Prop where
  vo : VoAt K H C p dx sa me sttV cntV stpV hs S fst vs
  kL : H L = some (.lst (cs.map V.int))
  kh : H ha = some (.lst (hb.map V.int))
  ko : H oa = some (.lst (ob.map V.int))
  kl : H la = some (.lst (las.map V.ref))
  kt : H ta = some (.lst (tl.map V.int))
  tp : Tups K H las lt
  st : SqT K H se (ss.map V.int)
  nd : [L, sa, ha, oa, la, ta].Nodup
section
variable {L b p dx sa se ha oa la ta : Addr} {cs : List Int} {me fst : Int} {S : List (List Int)} {ss : List Int} {H H' : Hp} {sttV : Str} {cntV : Int} {stpV : Option Int} {hs vs hb ob tl : List Int} {las : List Addr} {lt : List (List Int)}
theorem HF.same (F : HF K C L b p dx sa se cs me fst S ss H sttV cntV stpV hs vs ha oa la ta hb ob las lt tl) (s : Same H H') : HF K C L b p dx sa se cs me fst S ss H' sttV cntV stpV hs vs ha oa la ta hb ob las lt tl :=
  ⟨F.vo.same s, s _ _ F.kL, s _ _ F.kh, s _ _ F.ko, s _ _ F.kl, s _ _ F.kt, tups_same s F.tp, sqt_same s F.st, F.nd⟩
theorem dK_no {kvs : List (Key × V)} : (∀ ys, (HO.dK kvs) ≠ .tup ys) ∧ ∀ u ys, (HO.dK kvs) ≠ .frz u ys := ⟨(fun _ z => nomatch z), (fun _ _ z => nomatch z)⟩
theorem VoAt.mut {q : Addr} {o : HO} (A : VoAt K H C p dx sa me sttV cntV stpV hs S fst vs) (hq : H q = some o) (no : (∀ xs, o ≠ .tup xs) ∧ ∀ u xs, o ≠ .frz u xs) (ni : ∀ D d fs, o ≠ .ins D d fs) (ns : sa ≠ q) (c : Chg q H H') : VoAt K H' C p dx sa me sttV cntV stpV hs S fst vs := by
  obtain ⟨sv, h1, h2, h3, h4, tas, R⟩ := A
  exact ⟨sv, h1, h2, h3, h4, tas, c _ _ (fun e => by have := R.hp; rw [e, hq] at this; exact ni _ _ _ (Option.some.inj this)) R.hp, stp_mut hq no c R.hst, sqt_mut hq no c R.hh, sqt_mut hq no c R.hk, c _ _ ns R.hs, tups_mut hq no c R.ht, sqt_mut hq no c R.hss⟩
theorem HF.dict {kvs : List (Key × V)} (F : HF K C L b p dx sa se cs me fst S ss H sttV cntV stpV hs vs ha oa la ta hb ob las lt tl) (kb : H b = some (.dK kvs)) (c : Chg b H H') : HF K C L b p dx sa se cs me fst S ss H' sttV cntV stpV hs vs ha oa la ta hb ob las lt tl := by
  have n : ∀ {a : Addr} {xs : List V}, H a = some (.lst xs) → a ≠ b := fun h => ne_of h kb (by intro z; cases z)
  obtain ⟨sv, h1, h2, h3, h4, tas, R⟩ := id F.vo
  exact ⟨F.vo.mut kb dK_no (fun _ _ _ z => nomatch z) (n R.hs) c, c _ _ (n F.kL) F.kL, c _ _ (n F.kh) F.kh, c _ _ (n F.ko) F.ko, c _ _ (n F.kl) F.kl, c _ _ (n F.kt) F.kt, tups_mut kb dK_no c F.tp, sqt_mut kb dK_no c F.st, F.nd⟩
theorem HF.voter {sttV' : Str} {cntV' : Int} {stpV' : Option Int} {hs' vs' : List Int} (F : HF K C L b p dx sa se cs me fst S ss H sttV cntV stpV hs vs ha oa la ta hb ob las lt tl) (c : Chg p H H') (V' : VoAt K H' C p dx sa me sttV' cntV' stpV' hs' S fst vs') :
    HF K C L b p dx sa se cs me fst S ss H' sttV' cntV' stpV' hs' vs' ha oa la ta hb ob las lt tl := by
  obtain ⟨sv, h1, h2, h3, h4, tas, R⟩ := id F.vo
  have n : ∀ {a : Addr} {xs : List V}, H a = some (.lst xs) → a ≠ p := fun h => ne_of h R.hp (by intro z; cases z)
  exact ⟨V', c _ _ (n F.kL) F.kL, c _ _ (n F.kh) F.kh, c _ _ (n F.ko) F.ko, c _ _ (n F.kl) F.kl, c _ _ (n F.kt) F.kt, tups_mut R.hp ins_no c F.tp, sqt_mut R.hp ins_no c F.st, F.nd⟩
theorem HF.hand {hb' : List Int} (F : HF K C L b p dx sa se cs me fst S ss H sttV cntV stpV hs vs ha oa la ta hb ob las lt tl) : HF K C L b p dx sa se cs me fst S ss (upd H ha (.lst (hb'.map V.int))) sttV cntV stpV hs vs ha oa la ta hb' ob las lt tl := by
  have nd := F.nd
  have c : Chg ha H (upd H ha (.lst (hb'.map V.int))) := Chg.self
  exact ⟨F.vo.mut F.kh lst_no (fun _ _ _ z => nomatch z) (fun e => by subst e; simp at nd) c, c _ _ (fun e => by subst e; simp at nd) F.kL, upd_same, c _ _ (fun e => by subst e; simp at nd) F.ko, c _ _ (fun e => by subst e; simp at nd) F.kl, c _ _ (fun e => by subst e; simp at nd) F.kt, tups_mut F.kh lst_no c F.tp, sqt_mut F.kh lst_no c F.st, nd⟩
theorem HF.open_ {ob' : List Int} (F : HF K C L b p dx sa se cs me fst S ss H sttV cntV stpV hs vs ha oa la ta hb ob las lt tl) : HF K C L b p dx sa se cs me fst S ss (upd H oa (.lst (ob'.map V.int))) sttV cntV stpV hs vs ha oa la ta hb ob' las lt tl := by
  have nd := F.nd
  have c : Chg oa H (upd H oa (.lst (ob'.map V.int))) := Chg.self
  exact ⟨F.vo.mut F.ko lst_no (fun _ _ _ z => nomatch z) (fun e => by subst e; simp at nd) c, c _ _ (fun e => by subst e; simp at nd) F.kL, c _ _ (fun e => by subst e; simp at nd) F.kh, upd_same, c _ _ (fun e => by subst e; simp at nd) F.kl, c _ _ (fun e => by subst e; simp at nd) F.kt, tups_mut F.ko lst_no c F.tp, sqt_mut F.ko lst_no c F.st, nd⟩
theorem HF.late {las' : List Addr} {lt' : List (List Int)} (F : HF K C L b p dx sa se cs me fst S ss H sttV cntV stpV hs vs ha oa la ta hb ob las lt tl) (h : Tups K H las' lt') : HF K C L b p dx sa se cs me fst S ss (upd H la (.lst (las'.map V.ref))) sttV cntV stpV hs vs ha oa la ta hb ob las' lt' tl := by
  have nd := F.nd
  have c : Chg la H (upd H la (.lst (las'.map V.ref))) := Chg.self
  exact ⟨F.vo.mut F.kl lst_no (fun _ _ _ z => nomatch z) (fun e => by subst e; simp at nd) c, c _ _ (fun e => by subst e; simp at nd) F.kL, c _ _ (fun e => by subst e; simp at nd) F.kh, c _ _ (fun e => by subst e; simp at nd) F.ko, upd_same, c _ _ (fun e => by subst e; simp at nd) F.kt, tups_mut F.kl lst_no c h, sqt_mut F.kl lst_no c F.st, nd⟩
theorem HF.tells {tl' : List Int} (F : HF K C L b p dx sa se cs me fst S ss H sttV cntV stpV hs vs ha oa la ta hb ob las lt tl) : HF K C L b p dx sa se cs me fst S ss (upd H ta (.lst (tl'.map V.int))) sttV cntV stpV hs vs ha oa la ta hb ob las lt tl' := by
  have nd := F.nd
  have c : Chg ta H (upd H ta (.lst (tl'.map V.int))) := Chg.self
  exact ⟨F.vo.mut F.kt lst_no (fun _ _ _ z => nomatch z) (fun e => by subst e; simp at nd) c, c _ _ (fun e => by subst e; simp at nd) F.kL, c _ _ (fun e => by subst e; simp at nd) F.kh, c _ _ (fun e => by subst e; simp at nd) F.ko, c _ _ (fun e => by subst e; simp at nd) F.kl, upd_same, tups_mut F.kt lst_no c F.tp, sqt_mut F.kt lst_no c F.st, nd⟩
/-- a new list in an elder one's stead -/
theorem HF.fresh (F : HF K C L b p dx sa se cs me fst S ss H sttV cntV stpV hs vs ha oa la ta hb ob las lt tl) {D : Addr} (hD : H D = none) : D ≠ L ∧ D ≠ sa ∧ D ≠ ha ∧ D ≠ oa ∧ D ≠ la ∧ D ≠ ta := by
  obtain ⟨sv, h1, h2, h3, h4, tas, R⟩ := id F.vo
  exact ⟨(ne_of_none F.kL hD).symm, (ne_of_none R.hs hD).symm, (ne_of_none F.kh hD).symm, (ne_of_none F.ko hD).symm, (ne_of_none F.kl hD).symm, (ne_of_none F.kt hD).symm⟩
theorem HF.newhand {D : Addr} {hb' : List Int} (F : HF K C L b p dx sa se cs me fst S ss H sttV cntV stpV hs vs ha oa la ta hb ob las lt tl) (hD : H D = none) (s : Same H H') (kD : H' D = some (.lst (hb'.map V.int))) : HF K C L b p dx sa se cs me fst S ss H' sttV cntV stpV hs vs D oa la ta hb' ob las lt tl := by
  have G := F.same s
  obtain ⟨n1, n2, n3, n4, n5, n6⟩ := F.fresh hD
  have n1' := n1.symm
  have n2' := n2.symm
  have n3' := n3.symm
  have n4' := n4.symm
  have n5' := n5.symm
  have n6' := n6.symm
  have nd := F.nd
  exact { G with kh := kD, nd := by simp only [List.nodup_cons, List.mem_cons, not_or, List.not_mem_nil, not_false_eq_true, and_true] at nd ⊢; simp_all [Ne.symm] }
theorem HF.newopen {D : Addr} {ob' : List Int} (F : HF K C L b p dx sa se cs me fst S ss H sttV cntV stpV hs vs ha oa la ta hb ob las lt tl) (hD : H D = none) (s : Same H H') (kD : H' D = some (.lst (ob'.map V.int))) : HF K C L b p dx sa se cs me fst S ss H' sttV cntV stpV hs vs ha D la ta hb ob' las lt tl := by
  have G := F.same s
  obtain ⟨n1, n2, n3, n4, n5, n6⟩ := F.fresh hD
  have n1' := n1.symm
  have n2' := n2.symm
  have n3' := n3.symm
  have n4' := n4.symm
  have n5' := n5.symm
  have n6' := n6.symm
  have nd := F.nd
  exact { G with ko := kD, nd := by simp only [List.nodup_cons, List.mem_cons, not_or, List.not_mem_nil, not_false_eq_true, and_true] at nd ⊢; simp_all [Ne.symm] }
theorem HF.newlate {D : Addr} {las' : List Addr} {lt' : List (List Int)} (F : HF K C L b p dx sa se cs me fst S ss H sttV cntV stpV hs vs ha oa la ta hb ob las lt tl) (hD : H D = none) (s : Same H H') (kD : H' D = some (.lst (las'.map V.ref))) (h : Tups K H' las' lt') : HF K C L b p dx sa se cs me fst S ss H' sttV cntV stpV hs vs ha oa D ta hb ob las' lt' tl := by
  have G := F.same s
  obtain ⟨n1, n2, n3, n4, n5, n6⟩ := F.fresh hD
  have n1' := n1.symm
  have n2' := n2.symm
  have n3' := n3.symm
  have n4' := n4.symm
  have n5' := n5.symm
  have n6' := n6.symm
  have nd := F.nd
  exact { G with kl := kD, tp := h, nd := by simp only [List.nodup_cons, List.mem_cons, not_or, List.not_mem_nil, not_false_eq_true, and_true] at nd ⊢; simp_all [Ne.symm] }
end
structure PInv (ss : List Int) (stt : Str) (stp : Option Int) (cnt : Int) (hb ob : List Int) (lt : List (List Int)) (tl : List Int) : Prop where
  hnd : hb.Nodup
  hsub : ∀ x ∈ hb, x ∈ ss
  ond : ob.Nodup
  osub : ∀ x ∈ ob, x ∈ hb
  tlen : tl.length = 9
  llen : lt.length ≤ 8
  late : ∀ e ∈ lt, ∃ s c, e = [s, c] ∧ c ≤ cnt ∧ ∀ own, stp = some own → c < own
  st : (stt = "out" ∧ stp = none ∧ hb = [] ∧ ob = []) ∨ ∃ own, stp = some own ∧ own ≤ cnt ∧ ((stt = "asking" ∧ ∃ x ∈ ss, x ∉ hb) ∨ (stt = "in" ∧ ∀ x ∈ ss, x ∈ hb))
/-- the whole of it -/
structure Wd (K : PySem.W.Frag) (C L b p dx sa se : Addr) (cs : List Int) (me fst : Int) (S : List (List Int)) (ss : List Int) (bg : V) (H : Hp) (stt : Str) (stp : Option Int) (cnt : Int) (ha oa la ta : Addr) (hb ob : List Int) (lt : List (List Int)) (tl : List Int) : Prop where
  hf : ∃ hs las, HF K C L b p dx sa se cs me fst S ss H stt cnt stp hs (if stt = "out" then [] else ss) ha oa la ta hb ob las lt tl ∧ hs.Pairwise (· < ·) ∧ ∀ x : Int, x ∈ hs ↔ x ∈ hb
  bx : ∃ sp, H b = some (.dK (boxL me stt sp ha oa la ta bg cnt se)) ∧ Dp K H sp (stpD me stp)
  pi : PInv ss stt stp cnt hb ob lt tl
def WdX (K : PySem.W.Frag) (C L b p dx sa se : Addr) (cs : List Int) (me fst : Int) (S : List (List Int)) (ss : List Int) (bg : V) (H : Hp) : Prop := ∃ stt stp cnt ha oa la ta hb ob lt tl, Wd K C L b p dx sa se cs me fst S ss bg H stt stp cnt ha oa la ta hb ob lt tl
/-- what never changes -/
structure Cst (S : List (List Int)) (ss : List Int) (me fst : Int) (bg : V) : Prop where
  ok : SetsOk S
  ne : S ≠ []
  at_ : ∃ j : Nat, fst % (S.length : Int) = (j : Int) ∧ S[j]? = some ss
  bg : bg = .int (fst % (S.length : Int))
  m0 : 0 ≤ me
  m1 : me < 9
theorem Cst.ss {S : List (List Int)} {ss : List Int} {me fst : Int} {bg : V} (c : Cst S ss me fst bg) : ss ≠ [] ∧ ss.Nodup ∧ ss.length ≤ 8 ∧ ∀ x ∈ ss, 0 ≤ x ∧ x < 9 := by
  obtain ⟨j, _, h⟩ := c.at_
  obtain ⟨h1, h2, h3, h4⟩ := c.ok.2 ss (List.mem_of_getElem? h)
  exact ⟨h1, h2.imp fun h => by omega, h3, h4⟩
end

end G0
namespace G0
open PySem PySem.Spec PyProof.Rows L2 NdefX ClX
section
variable {P : Program} {w : World} {K : PySem.W.Frag} {mg : Str → Option Value} {base : Heap} {C CB : Addr}
/-! ### asks, leaves -/
theorem n_oa : ¬ (("out" : Str) = "asking") := by decide +kernel
theorem n_oi : ¬ (("out" : Str) = "in") := by decide +kernel
theorem n_ao : ¬ (("asking" : Str) = "out") := by decide +kernel
theorem n_io : ¬ (("in" : Str) = "out") := by decide +kernel
theorem n_ai : ¬ (("asking" : Str) = "in") := by decide +kernel
theorem n_ia : ¬ (("in" : Str) = "asking") := by decide +kernel
theorem lv_send (z : Str) (c k : Int) : Lv 2 (sendD z c k) := by
  refine .tup (by show 2 < 10000; decide) fun d hd => ?_
  simp only [List.mem_cons, List.not_mem_nil, or_false] at hd
  rcases hd with rfl | rfl
  · exact .int _
  · refine .tup (by show 3 < 10000; decide) fun d hd => ?_
    simp only [List.mem_cons, List.not_mem_nil, or_false] at hd
    rcases hd with rfl | rfl | rfl
    · exact .str _
    · exact .int _
    · exact .int _
theorem lv_sends (z : Str) (c : Int) (ss : List Int) : ∀ d ∈ ss.map (sendD z c), Lv 2 d := fun d hd => by
  obtain ⟨k, _, rfl⟩ := List.mem_map.mp hd
  exact lv_send z c k
theorem box_len {me : Int} {stt : Str} {sp : V} {ha oa la ta : Addr} {bg : V} {cn : Int} {se : Addr} : (boxL me stt sp ha oa la ta bg cn se).length < sizeLine := by show 10 < sizeLine; decide
def spAsksV (K : PySem.W.Frag) (C : Addr) : Sp := fun vs H Q _ => ∃ (L b p dx sa se ha oa la ta : Addr) (cs ss : List Int) (me fst cnt : Int) (S : List (List Int)) (bg : V) (stp : Option Int) (hb ob tl : List Int) (lt : List (List Int)), vs = [.ref p, .ref b] ∧ Cst S ss me fst bg ∧
  Wd K C L b p dx sa se cs me fst S ss bg H "out" stp cnt ha oa la ta hb ob lt tl ∧ ∀ H', WdX K C L b p dx sa se cs me fst S ss bg H' → Q (.bl true) H'
theorem sc_law_asks : FnScope ["voter", "box", "due", "seat"] ["voter", "box"] (defScope s_law_asks) :=
  ⟨rfl, rfl, rfl, by decide +kernel, rfl, by decide +kernel, by decide +kernel⟩
theorem ok_asksV (F : Fn K mg "_law_asks" s_law_asks) (T : BlV mg) (VT : VoT K C) (MA : Me P w K mg base (L2.CX P w) C "ask" 3 ["self"] (spAskV K C CB)) (C_same : Cal P w K mg base "_law_same" 4 ["found", "due"] (spSameD K 3)) : Cal P w K mg base "_law_asks" 5 ["voter", "box"] (spAsksV K C) := by
  obtain ⟨fA, fdA, GA, bA, mA⟩ := MA
  refine cal_of F sc_law_asks
    (fun _ _ _ _ _ _ us hl => match us, hl with | [_, _], _ => rfl) ?_ ?_
  · rintro vs H Q E ⟨L, b, p, _, _, _, _, _, _, _, _, _, _, _, _, _, _, _, _, _, _, _, rfl, _⟩
    rfl
  rintro f cdv A outer s H vs Q E free hr ⟨L, b, p, dx, sa, se, ha, oa, la, ta, cs, ss, me, fst, cnt, S, bg, stp, hb, ob, tl, lt, rfl, cst, W, q⟩
  obtain ⟨⟨hs, las, F0, up, mem⟩, ⟨sp, kb, dsp⟩, pi⟩ := W
  obtain ⟨sne, snd, slen, slow⟩ := cst.ss
  obtain ⟨rfl, rfl, rfl⟩ : stp = none ∧ hb = [] ∧ ob = [] := by
    rcases pi.st with ⟨_, h1, h2, h3⟩ | ⟨own, _, _, ⟨e, _⟩ | ⟨e, _⟩⟩
    · exact ⟨h1, h2, h3⟩
    · exact absurd e n_oa
    · exact absurd e n_oi
  have hr3 : Room 3 _ := hr.mono (by decide)
  refine ⟨_, (pss_cons (ps_asg (pe_op op_add (pe_dget (hu_of hr) (pv 1) pe_str (fun _ _ => rfl)) pe_int) (pg_sub (pv 1) pe_str (set_dict (hu_of hr))))
    (pss_cons (ps_asg pe_str (pg_sub (pv 1) pe_str (set_dict (hu_of hr))))
    (pss_cons (ps_asg (pe_tup (pa_cons (pe_dget (hu_of hr) (pv 1) pe_str (fun _ _ => rfl)) (pa_cons (pe_dget (hu_of hr) (pv 1) pe_str (fun _ _ => rfl)) (pa_cons pe_int pa_nil)))) (pg_sub (pv 1) pe_str (set_dict (hu_of hr))))
    (pss_cons (ps_setLc (i := 2) (own := [("seat", 3)]) (g := gName 3) (tt := tYes) (by rfl) sc_law_asks.nd rfl rfl (sw_true rfl rfl rfl (by decide +kernel)) (pi_tup (pe_dget (hu_of hr) (pv 1) pe_str (fun _ _ => rfl))) (blkOk_by (N := ["voter", "box", "due", "seat"]) (sc := defScope s_law_asks) (by decide +kernel)) (fun _ _ _ _ _ => pg_name (i := 3) sc_law_asks.nd rfl (Or.inl rfl)) (fun _ _ _ _ _ => pts_nil) (fun _ _ _ _ _ => (pe_tup (pa_cons (pv 3) (pa_cons (pe_tup (pa_cons pe_str (pa_cons (pe_dget (hu_of hr) (pv 1) pe_str (fun _ _ => rfl)) (pa_cons pe_int pa_nil)))) pa_nil)))))
    (pss_one (ps_ret (pe_cal C_same free (hr.mono (by decide)) (pa_cons (pe_meth0 (E := E0) (pv 0) VT.cl mA GA hr3 bA .nil passL) (pa_cons (pv 2) pa_nil))))))))), ?_⟩
  refine ⟨_, rfl, b, _, rfl, .inl ⟨_, kS "count", .inl kb, rfl, (boxL_cn _ _ _ _ _ _ _ _ _ _).symm⟩, _, _, rfl, rfl, _, rfl, b, _, rfl, .inl ⟨_, kS "count", kb, rfl, box_len, rfl⟩, ?_⟩
  rw [boxL_put_cn]
  have F1 := F0.dict kb (Chg.self (o := .dK (boxL me "out" sp ha oa la ta bg (cnt + 1) se)))
  refine ⟨_, rfl, b, _, rfl, .inl ⟨_, kS "state", upd_same, rfl, box_len, rfl⟩, ?_⟩
  rw [boxL_put_stt]
  have F2 := F1.dict upd_same (Chg.self (o := .dK (boxL me "asking" sp ha oa la ta bg (cnt + 1) se)))
  refine ⟨_, rfl, b, _, rfl, .inl ⟨_, kS "count", .inl upd_same, rfl, (boxL_cn _ _ _ _ _ _ _ _ _ _).symm⟩, _, rfl, b, _, rfl, .inl ⟨_, kS "me", .inl upd_same, rfl, (boxL_me _ _ _ _ _ _ _ _ _ _).symm⟩, by show 3 ≤ sizeLine; decide, fun t ht => ?_⟩
  have s3 := same_upd (o := .tup [.int (cnt + 1), .int me, .int 0]) ht
  have F3 := F2.same s3
  refine ⟨_, rfl, b, _, rfl, .inl ⟨_, kS "stamp", s3 _ _ upd_same, rfl, box_len, rfl⟩, ?_⟩
  rw [boxL_put_sp]
  have F4 := F3.dict (s3 _ _ upd_same) (Chg.self (o := .dK (boxL me "asking" (.ref t) ha oa la ta bg (cnt + 1) se)))
  have tb : t ≠ b := (ne_of_none upd_same ht).symm
  obtain ⟨H4, e4⟩ : ∃ H4, H4 = upd (upd (upd (upd H b (.dK (boxL me "out" sp ha oa la ta bg (cnt + 1) se))) b (.dK (boxL me "asking" sp ha oa la ta bg (cnt + 1) se))) t (.tup [.int (cnt + 1), .int me, .int 0])) b (.dK (boxL me "asking" (.ref t) ha oa la ta bg (cnt + 1) se)) := ⟨_, rfl⟩
  have k4 : H4 b = some (.dK (boxL me "asking" (.ref t) ha oa la ta bg (cnt + 1) se)) := by rw [e4]; exact upd_same
  have t4 : H4 t = some (.tup [.int (cnt + 1), .int me, .int 0]) := by rw [e4, upd_ne tb]; exact upd_same
  rw [← e4] at F4
  rw [← e4]
  refine ⟨_, rfl, b, _, rfl, .inl ⟨_, kS "set", .inl k4, rfl, (boxL_se _ _ _ _ _ _ _ _ _ _).symm⟩, se, rfl, ⟨_, F4.st⟩, fun D hD => ?_⟩
  refine lc_tup (K := K) (a := se) (xs := ss.map V.int) (fun i G => Same H4 G ∧ ∃ zs, zs.length = i ∧ G D = some (.lst zs) ∧ DpAll K G zs ((ss.take i).map (sendD "ask" (cnt + 1)))) ⟨same_upd hD, [], rfl, upd_same, .nil⟩ (fun i G _ h => sqt_same h.1 F4.st) ?_ ?_
  · rintro i x G hx ⟨sG, zs, lz, kD, dz⟩
    obtain ⟨k, hk, rfl⟩ : ∃ k : Int, ss[i]? = some k ∧ x = .int k := by
      rw [List.getElem?_map] at hx
      cases z : ss[i]? with
      | none => rw [z] at hx; cases hx
      | some k => rw [z] at hx; exact ⟨k, rfl, (Option.some.inj hx).symm⟩
    have li := (List.getElem?_eq_some_iff.mp hk).1
    refine ⟨rfl, lc_yes ?_⟩
    refine ⟨_, rfl, _, rfl, b, _, rfl, .inl ⟨_, kS "count", .inl (sG _ _ k4), rfl, (boxL_cn _ _ _ _ _ _ _ _ _ _).symm⟩, by show 3 ≤ sizeLine; decide, fun u hu => ?_⟩
    have s5 := same_upd (o := .tup [.str "ask", .int (cnt + 1), .int 0]) hu
    refine ⟨by show 2 ≤ sizeLine; decide, fun u2 hu2 => ?_⟩
    have s6 := same_upd (o := .tup [.int k, .ref u]) hu2
    have kD6 := s6 _ _ (s5 _ _ kD)
    refine ⟨_, kD6, Nat.lt_of_lt_of_le (show zs.length < 2000 by omega) (by decide), fun a o e => ?_, zs ++ [.ref u2], by rw [List.length_append, lz]; rfl, upd_same, ?_⟩
    · rw [upd_ne (ne_of_none e hD)]
      exact s6 _ _ (s5 _ _ (sG _ _ e))
    · refine dps_chg ⟨_, kD6⟩ Chg.self _ _ (noLs_send _ _ _) ?_
      rw [List.take_add_one, hk, List.map_append]
      exact dps_app (dps_same (s5.trans s6) _ _ dz) (.cons (dp_send (SqT.of upd_same) (SqT.of (s6 _ _ upd_same))) .nil)
  rintro G ⟨sG, zs, lz, kD, dz⟩
  rw [List.length_map, List.take_length] at dz
  have F5 := F4.same sG
  obtain ⟨sv, hnd, knw, dsk, sett, tas, R⟩ := id F5.vo
  obtain ⟨j0, ej0, hj0⟩ := cst.at_
  refine ⟨_, rfl, p, dx, _, rfl, R.hp, (voF_no _ _ _ _ _ _ _ _ _ _ _ (by decide +kernel) (by decide +kernel) (by decide +kernel) (by decide +kernel) (by decide +kernel) (by decide +kernel) (by decide +kernel) (by decide +kernel) (by decide +kernel) (by decide +kernel) (by decide +kernel)), p, dx, sa, me, cnt, fst, "out", none, hs, _, S, rfl, F5.vo, by have := cst.ok.1; omega, fun one h => by have := (cst.ok.2 one h).2.2.1; omega, fun e => absurd e cst.ne, fun j one ej hj l zs2 H6 hl cg V6 kl dz2 => ?_⟩
  have ejj : j = j0 := by omega
  subst ejj
  rw [hj0] at hj
  cases hj
  have F6 := F5.voter cg V6
  have Dp' : D ≠ p := ne_of kD R.hp (by intro z; cases z)
  have bp : b ≠ p := ne_of (sG _ _ k4) R.hp (by intro z; cases z)
  refine ⟨_, rfl, _, _, rfl, .inr ⟨l, D, zs2, zs, _, 2, rfl, rfl, kl, cg _ _ Dp' kD, dz2, dps_mut R.hp ins_no cg _ _ (noLs_send _ _ _) dz, rfl, by rw [List.length_map]; omega, lv_sends _ _ _⟩, ?_⟩
  refine q _ ⟨"asking", some (cnt + 1), cnt + 1, ha, oa, la, ta, [], [], lt, tl, ⟨[], las, ?_, .nil, fun x => Iff.rfl⟩, ⟨.ref t, cg _ _ bp (sG _ _ k4), dp_stp (sqt_mut R.hp ins_no cg (sqt_same sG (SqT.of t4)))⟩, ?_⟩
  · rw [if_neg n_ao]
    exact F6
  · refine ⟨.nil, fun x h => by simp at h, .nil, fun x h => by simp at h, pi.tlen, pi.llen, fun e he => ?_, .inr ⟨cnt + 1, rfl, Int.le_refl _, .inl ⟨rfl, ?_⟩⟩⟩
    · obtain ⟨s1, c1, e1, h1, _⟩ := pi.late e he
      exact ⟨s1, c1, e1, by omega, fun own h => by cases h; omega⟩
    · obtain ⟨x, hx⟩ := List.exists_mem_of_ne_nil ss sne
      exact ⟨x, hx, by simp⟩
end

end G0
namespace G0
open PySem PySem.Spec PyProof.Rows L2 NdefX ClX
section
variable {P : Program} {w : World} {K : PySem.W.Frag} {mg : Str → Option Value} {base : Heap} {C CB : Addr}
theorem fit_len : ∀ (l m : List Int), l.Nodup → (∀ x ∈ l, x ∈ m) → l.length ≤ m.length
  | [], _, _, _ => Nat.zero_le _
  | x :: l, m, nd, h => by
    obtain ⟨n1, n2⟩ := List.nodup_cons.mp nd
    have hx := h x (List.mem_cons_self ..)
    have := fit_len l (m.erase x) n2 fun y hy => (List.mem_erase_of_ne (fun z => n1 (by rw [← z]; exact hy))).mpr (h y (List.mem_cons_of_mem _ hy))
    rw [List.length_erase_of_mem hx] at this
    have pos : 0 < m.length := List.length_pos_of_mem hx
    rw [List.length_cons]
    omega
theorem all_in {ss hb : List Int} (s : ss.Nodup) (h : hb.Nodup) (sub : ∀ x ∈ hb, x ∈ ss) : (∀ x ∈ ss, x ∈ hb) ↔ hb.length = ss.length := by
  constructor
  · intro a
    exact Nat.le_antisymm (fit_len _ _ h sub) (fit_len _ _ s a)
  · intro e x hx
    by_cases c : x ∈ hb
    · exact c
    · have := fit_len (x :: hb) ss (List.nodup_cons.mpr ⟨c, h⟩) fun y hy => by
        rcases List.mem_cons.mp hy with z | z
        · rw [z]; exact hx
        · exact sub y z
      rw [List.length_cons] at this
      omega
/-! ### leaves -/
def spLeavesV (K : PySem.W.Frag) (C : Addr) : Sp := fun vs H Q _ => ∃ (L b p dx sa se ha oa la ta : Addr) (cs ss : List Int) (me fst cnt : Int) (S : List (List Int)) (bg : V) (stp : Option Int) (hb ob tl : List Int) (lt : List (List Int)), vs = [.ref p, .ref b] ∧ Cst S ss me fst bg ∧
  Wd K C L b p dx sa se cs me fst S ss bg H "in" stp cnt ha oa la ta hb ob lt tl ∧ ∀ H', WdX K C L b p dx sa se cs me fst S ss bg H' → Q (.bl true) H'
theorem sc_law_leaves : FnScope ["voter", "box", "elder", "seat"] ["voter", "box"] (defScope s_law_leaves) :=
  ⟨rfl, rfl, rfl, by decide +kernel, rfl, by decide +kernel, by decide +kernel⟩
theorem ok_leavesV (F : Fn K mg "_law_leaves" s_law_leaves) (T : BlV mg) (VT : VoT K C) (ML : Me P w K mg base CX0 C "leave" 2 ["self"] (spLeaveV K C)) (C_same : Cal P w K mg base "_law_same" 4 ["found", "due"] (spSameD K 3)) : Cal P w K mg base "_law_leaves" 5 ["voter", "box"] (spLeavesV K C) := by
  obtain ⟨fA, fdA, GA, bA, mA⟩ := ML
  refine cal_of F sc_law_leaves
    (fun _ _ _ _ _ _ us hl => match us, hl with | [_, _], _ => rfl) ?_ ?_
  · rintro vs H Q E ⟨L, b, p, _, _, _, _, _, _, _, _, _, _, _, _, _, _, _, _, _, _, _, rfl, _⟩
    rfl
  rintro f cdv A outer s H vs Q E free hr ⟨L, b, p, dx, sa, se, ha, oa, la, ta, cs, ss, me, fst, cnt, S, bg, stp, hb, ob, tl, lt, rfl, cst, W, q⟩
  obtain ⟨⟨hs, las, F0, up, mem⟩, ⟨sp, kb, dsp⟩, pi⟩ := W
  obtain ⟨sne, snd, slen, slow⟩ := cst.ss
  obtain ⟨own, rfl, oc⟩ : ∃ own, stp = some own ∧ own ≤ cnt := by
    rcases pi.st with ⟨e, _⟩ | ⟨own, e1, e2, _⟩
    · exact absurd e n_io
    · exact ⟨own, e1, e2⟩
  have lob : ob.length ≤ 8 := by
    have h1 := fit_len _ _ pi.ond fun x hx => pi.hsub x (pi.osub x hx)
    omega
  have hr2 : Room 2 _ := hr.mono (by decide)
  obtain ⟨t, rfl, ht⟩ := stp_at dsp
  rw [if_neg n_io] at F0
  refine ⟨_, (pss_cons (ps_set (i := 2) sc_law_leaves.nd rfl (Or.inr rfl) (pe_ix ix_tup (pe_dget (hu_of hr) (pv 1) pe_str (fun _ _ => rfl)) pe_int (fun _ _ => rfl)))
    (pss_cons (ps_asg (pe_lc (own := [("seat", 3)]) (g := gName 3) (tt := tYes) (by rfl) sc_law_leaves.nd (pi_list (pe_dget (hu_of hr) (pv 1) pe_str (fun _ _ => rfl))) (blkOk_by (N := ["voter", "box", "elder", "seat"]) (sc := defScope s_law_leaves) (by decide +kernel)) (fun _ _ _ _ _ => pg_name (i := 3) sc_law_leaves.nd rfl (Or.inl rfl)) (fun _ _ _ _ _ => pts_nil) (fun _ _ _ _ _ => (pe_tup (pa_cons (pv 3) (pa_cons (pv 2) pa_nil))))) (pg_sub (pv 1) pe_str (set_dict (hu_of hr))))
    (pss_cons (ps_asg pe_str (pg_sub (pv 1) pe_str (set_dict (hu_of hr))))
    (pss_cons (ps_asg pe_non (pg_sub (pv 1) pe_str (set_dict (hu_of hr))))
    (pss_cons (ps_asg (pe_lst pa_nil) (pg_sub (pv 1) pe_str (set_dict (hu_of hr))))
    (pss_cons (ps_asg (pe_lst pa_nil) (pg_sub (pv 1) pe_str (set_dict (hu_of hr))))
    (pss_one (ps_ret (pe_cal C_same free (hr.mono (by decide)) (pa_cons (pe_meth0 (pv 0) VT.cl mA GA hr2 bA .nil pass0) (pa_cons (pe_lc (own := [("seat", 3)]) (g := gName 3) (tt := tYes) (by rfl) sc_law_leaves.nd (pi_tup (pe_dget (hu_of hr) (pv 1) pe_str (fun _ _ => rfl))) (blkOk_by (N := ["voter", "box", "elder", "seat"]) (sc := defScope s_law_leaves) (by decide +kernel)) (fun _ _ _ _ _ => pg_name (i := 3) sc_law_leaves.nd rfl (Or.inl rfl)) (fun _ _ _ _ _ => pts_nil) (fun _ _ _ _ _ => (pe_tup (pa_cons (pv 3) (pa_cons (pe_tup (pa_cons pe_str (pa_cons (pv 2) (pa_cons pe_int pa_nil)))) pa_nil))))) pa_nil))))))))))), ?_⟩
  refine ⟨_, rfl, b, _, rfl, .inl ⟨_, kS "stamp", .inl kb, rfl, (boxL_sp _ _ _ _ _ _ _ _ _ _).symm⟩, t, _, _, _, rfl, rfl, ht, atI_nat (j := 0) rfl, ?_⟩
  refine ⟨_, rfl, b, _, rfl, .inl ⟨_, kS "open", .inl kb, rfl, (boxL_oa _ _ _ _ _ _ _ _ _ _).symm⟩, oa, rfl, ⟨_, SqL.of F0.ko⟩, fun D hD => ?_⟩
  refine lc_list (K := K) (a := oa) (xs := ob.map V.int) (fun i G => Same H G ∧ ∃ zs, zs.length = i ∧ G D = some (.lst (zs.map V.ref)) ∧ Tups K G zs ((ob.take i).map fun s => [s, own])) ⟨same_upd hD, [], rfl, upd_same, ⟨rfl, fun i t one h => by simp at h⟩⟩ (fun i G _ h => SqL.of (h.1 _ _ F0.ko)) ?_ ?_
  · rintro i x G hx ⟨sG, zs, lz, kD, dz⟩
    obtain ⟨k, hk, rfl⟩ : ∃ k : Int, ob[i]? = some k ∧ x = .int k := by
      rw [List.getElem?_map] at hx
      cases z : ob[i]? with
      | none => rw [z] at hx; cases hx
      | some k => rw [z] at hx; exact ⟨k, rfl, (Option.some.inj hx).symm⟩
    have li := (List.getElem?_eq_some_iff.mp hk).1
    refine ⟨rfl, lc_yes ?_⟩
    refine ⟨_, rfl, _, rfl, by show 2 ≤ sizeLine; decide, fun u hu => ?_⟩
    have s5 := same_upd (o := .tup [.int k, .int own]) hu
    have kD5 := s5 _ _ kD
    refine ⟨_, kD5, ?_, fun a o e => ?_, zs ++ [u], by rw [List.length_append, lz]; rfl, by rw [upd_same, List.map_append]; rfl, ?_⟩
    · rw [List.length_map]
      exact Nat.lt_of_lt_of_le (show zs.length < 100 by omega) (by decide)
    · rw [upd_ne (ne_of_none e hD)]
      exact s5 _ _ (sG _ _ e)
    · rw [List.take_add_one, hk, List.map_append]
      exact tups_snoc (tups_mut kD5 lst_no Chg.self (tups_same s5 dz)) (sqt_mut kD5 lst_no Chg.self (SqT.of upd_same))
  rintro G ⟨sG, zs, lz, kD, dz⟩
  rw [List.length_map, List.take_length] at dz
  have F1 := F0.newlate hD sG kD dz
  have k1 := sG _ _ kb
  refine ⟨_, rfl, b, _, rfl, .inl ⟨_, kS "late", k1, rfl, box_len, rfl⟩, ?_⟩
  rw [boxL_put_la]
  have F2 := F1.dict k1 (Chg.self (o := .dK (boxL me "in" (.ref t) ha oa D ta bg cnt se)))
  refine ⟨_, rfl, b, _, rfl, .inl ⟨_, kS "state", upd_same, rfl, box_len, rfl⟩, ?_⟩
  rw [boxL_put_stt]
  have F3 := F2.dict upd_same (Chg.self (o := .dK (boxL me "out" (.ref t) ha oa D ta bg cnt se)))
  refine ⟨_, rfl, b, _, rfl, .inl ⟨_, kS "stamp", upd_same, rfl, box_len, rfl⟩, ?_⟩
  rw [boxL_put_sp]
  have F4 := F3.dict upd_same (Chg.self (o := .dK (boxL me "out" .non ha oa D ta bg cnt se)))
  refine ⟨Nat.zero_le _, fun D2 hD2 => ?_⟩
  have s5 := same_upd (o := .lst []) hD2
  have F5 := F4.newhand (hb' := []) hD2 s5 upd_same
  refine ⟨_, rfl, b, _, rfl, .inl ⟨_, kS "hand", s5 _ _ upd_same, rfl, box_len, rfl⟩, ?_⟩
  rw [boxL_put_ha]
  have F6 := F5.dict (s5 _ _ upd_same) (Chg.self (o := .dK (boxL me "out" .non D2 oa D ta bg cnt se)))
  refine ⟨Nat.zero_le _, fun D3 hD3 => ?_⟩
  have s7 := same_upd (o := .lst []) hD3
  have F7 := F6.newopen (ob' := []) hD3 s7 upd_same
  refine ⟨_, rfl, b, _, rfl, .inl ⟨_, kS "open", s7 _ _ upd_same, rfl, box_len, rfl⟩, ?_⟩
  rw [boxL_put_oa]
  have F8 := F7.dict (s7 _ _ upd_same) (Chg.self (o := .dK (boxL me "out" .non D2 D3 D ta bg cnt se)))
  have k8' : ∀ X : Hp, (upd X b (.dK (boxL me "out" .non D2 D3 D ta bg cnt se))) b = some (.dK (boxL me "out" .non D2 D3 D ta bg cnt se)) := fun X => upd_same
  have k8 := k8' (upd (upd (upd (upd (upd (upd G b (.dK (boxL me "in" (.ref t) ha oa D ta bg cnt se))) b (.dK (boxL me "out" (.ref t) ha oa D ta bg cnt se))) b (.dK (boxL me "out" .non ha oa D ta bg cnt se))) D2 (.lst [])) b (.dK (boxL me "out" .non D2 oa D ta bg cnt se))) D3 (.lst []))
  obtain ⟨H8, e8⟩ : ∃ H8, H8 = upd (upd (upd (upd (upd (upd (upd G b (.dK (boxL me "in" (.ref t) ha oa D ta bg cnt se))) b (.dK (boxL me "out" (.ref t) ha oa D ta bg cnt se))) b (.dK (boxL me "out" .non ha oa D ta bg cnt se))) D2 (.lst [])) b (.dK (boxL me "out" .non D2 oa D ta bg cnt se))) D3 (.lst [])) b (.dK (boxL me "out" .non D2 D3 D ta bg cnt se)) := ⟨_, rfl⟩
  have F8 : HF K C L b p dx sa se cs me fst S ss H8 "in" cnt (some own) hs ss D2 D3 D ta [] [] zs (ob.map fun s => [s, own]) tl := by rw [e8]; exact F8
  rw [← e8] at k8
  rw [← e8]
  clear e8 F7 F6 F5 F4 F3 F2 F1
  obtain ⟨sv, hnd, knw, dsk, sett, tas, R⟩ := id F8.vo
  refine ⟨_, rfl, p, dx, _, rfl, R.hp, (voF_no _ _ _ _ _ _ _ _ _ _ _ (by decide +kernel) (by decide +kernel) (by decide +kernel) (by decide +kernel) (by decide +kernel) (by decide +kernel) (by decide +kernel) (by decide +kernel) (by decide +kernel) (by decide +kernel) (by decide +kernel)), p, dx, sa, me, cnt, fst, own, "in", hs, ss, S, rfl, F8.vo, by omega, fun l zs2 H9 hl cg V9 kl dz2 => ?_⟩
  have F9 := F8.voter cg V9
  have bp : b ≠ p := ne_of k8 R.hp (by intro z; cases z)
  have k9 := cg _ _ bp k8
  refine ⟨_, rfl, b, _, rfl, .inl ⟨_, kS "set", .inl k9, rfl, (boxL_se _ _ _ _ _ _ _ _ _ _).symm⟩, se, rfl, ⟨_, F9.st⟩, fun E1 hE1 => ?_⟩
  refine lc_tup (K := K) (a := se) (xs := ss.map V.int) (fun i G => Same H9 G ∧ ∃ zs, zs.length = i ∧ G E1 = some (.lst zs) ∧ DpAll K G zs ((ss.take i).map (sendD "done" own))) ⟨same_upd hE1, [], rfl, upd_same, .nil⟩ (fun i G _ h => sqt_same h.1 F9.st) ?_ ?_
  · rintro i x G hx ⟨sG, zs, lz, kD, dz⟩
    obtain ⟨k, hk, rfl⟩ : ∃ k : Int, ss[i]? = some k ∧ x = .int k := by
      rw [List.getElem?_map] at hx
      cases z : ss[i]? with
      | none => rw [z] at hx; cases hx
      | some k => rw [z] at hx; exact ⟨k, rfl, (Option.some.inj hx).symm⟩
    have li := (List.getElem?_eq_some_iff.mp hk).1
    refine ⟨rfl, lc_yes ?_⟩
    refine ⟨_, rfl, _, rfl, by show 3 ≤ sizeLine; decide, fun u hu => ?_⟩
    have s5 := same_upd (o := .tup [.str "done", .int own, .int 0]) hu
    refine ⟨by show 2 ≤ sizeLine; decide, fun u2 hu2 => ?_⟩
    have s6 := same_upd (o := .tup [.int k, .ref u]) hu2
    have kD6 := s6 _ _ (s5 _ _ kD)
    refine ⟨_, kD6, Nat.lt_of_lt_of_le (show zs.length < 2000 by omega) (by decide), fun a o e => ?_, zs ++ [.ref u2], by rw [List.length_append, lz]; rfl, upd_same, ?_⟩
    · rw [upd_ne (ne_of_none e hE1)]
      exact s6 _ _ (s5 _ _ (sG _ _ e))
    · refine dps_chg ⟨_, kD6⟩ Chg.self _ _ (noLs_send _ _ _) ?_
      rw [List.take_add_one, hk, List.map_append]
      exact dps_app (dps_same (s5.trans s6) _ _ dz) (.cons (dp_send (SqT.of upd_same) (SqT.of (s6 _ _ upd_same))) .nil)
  rintro G2 ⟨sG2, zs3, lz3, kE, dz3⟩
  rw [List.length_map, List.take_length] at dz3
  refine ⟨V.ref l, V.ref E1, rfl, .inr ⟨l, E1, zs2, zs3, _, 2, rfl, rfl, sG2 _ _ kl, kE, dps_same sG2 _ _ dz2, dz3, rfl, by rw [List.length_map]; omega, lv_sends _ _ _⟩, ?_⟩
  refine q _ ⟨"out", none, cnt, D2, D3, D, ta, [], [], ob.map fun s => [s, own], tl, ⟨[], zs, ?_, .nil, fun x => Iff.rfl⟩, ⟨.non, sG2 _ _ k9, .non⟩, ?_⟩
  · rw [if_pos rfl]
    exact F9.same sG2
  · refine ⟨.nil, fun x h => by simp at h, .nil, fun x h => by simp at h, pi.tlen, by rw [List.length_map]; exact lob, fun e he => ?_, .inl ⟨rfl, rfl, rfl, rfl⟩⟩
    obtain ⟨x, _, rfl⟩ := List.mem_map.mp he
    exact ⟨x, own, rfl, oc, fun o h => nomatch h⟩
end

end G0
namespace G0
open PySem PySem.Spec PyProof.Rows L2 NdefX ClX
section
variable {P : Program} {w : World} {K : PySem.W.Frag} {mg : Str → Option Value} {base : Heap} {C CB : Addr}
/-! ### a vote -/
def spVotesV (K : PySem.W.Frag) (C : Addr) : Sp := fun vs H Q _ => ∃ (L b p dx sa se ha oa la ta : Addr) (cs ss : List Int) (me fst cnt pick more : Int) (S : List (List Int)) (bg : V) (stp : Option Int) (hb ob tl : List Int) (lt : List (List Int)), vs = [.ref p, .ref b, .int pick, .int more] ∧ Cst S ss me fst bg ∧
  Wd K C L b p dx sa se cs me fst S ss bg H "asking" stp cnt ha oa la ta hb ob lt tl ∧ ∀ H', WdX K C L b p dx sa se cs me fst S ss bg H' → Q (.bl true) H'
theorem sc_law_votes : FnScope ["voter", "box", "pick", "more", "wanted", "seat", "own", "one"] ["voter", "box", "pick", "more"] (defScope s_law_votes) :=
  ⟨rfl, rfl, rfl, by decide +kernel, rfl, by decide +kernel, by decide +kernel⟩
theorem ok_votesV (F : Fn K mg "_law_votes" s_law_votes) (T : BlV mg) (VT : VoT K C) (MH : Me P w K mg base CX0 C "hear" 2 ["self", "sender", "letter"] (spHearV K C)) (C_same : Cal P w K mg base "_law_same" 4 ["found", "due"] (spSameD K 3)) : Cal P w K mg base "_law_votes" 5 ["voter", "box", "pick", "more"] (spVotesV K C) := by
  obtain ⟨fA, fdA, GA, bA, mA⟩ := MH
  refine cal_of F sc_law_votes
    (fun _ _ _ _ _ _ us hl => match us, hl with | [_, _, _, _], _ => rfl) ?_ ?_
  · rintro vs H Q E ⟨L, b, p, _, _, _, _, _, _, _, _, _, _, _, _, _, _, _, _, _, _, _, _, _, rfl, _⟩
    rfl
  rintro f cdv A outer s H vs Q E free hr ⟨L, b, p, dx, sa, se, ha, oa, la, ta, cs, ss, me, fst, cnt, pick, more, S, bg, stp, hb, ob, tl, lt, rfl, cst, W, q⟩
  obtain ⟨⟨hs, las, F0, up, mem⟩, ⟨sp, kb, dsp⟩, pi⟩ := W
  obtain ⟨sne, snd, slen, slow⟩ := cst.ss
  obtain ⟨own, rfl, oc, x0, hx0, nx0⟩ : ∃ own, stp = some own ∧ own ≤ cnt ∧ ∃ x ∈ ss, x ∉ hb := by
    rcases pi.st with ⟨e, _⟩ | ⟨own, e1, e2, ⟨_, x, h1, h2⟩ | ⟨e, _⟩⟩
    · exact absurd e n_ao
    · exact ⟨own, e1, e2, x, h1, h2⟩
    · exact absurd e n_ai
  have lhb : hb.length ≤ 8 := by
    have h1 := fit_len _ _ pi.hnd pi.hsub
    omega
  have lob : ob.length ≤ 8 := by
    have h1 := fit_len _ _ pi.ond pi.osub
    omega
  have hr2 : Room 2 _ := hr.mono (by decide)
  obtain ⟨t, rfl, ht⟩ := stp_at dsp
  rw [if_neg n_ao] at F0
  refine ⟨_, (pss_cons (ps_setLc (i := 4) (own := [("seat", 5)]) (g := gName 5)  (by rfl) sc_law_votes.nd rfl rfl (sw_true rfl rfl rfl (by decide +kernel)) (pi_tup (pe_dget (hu_of hr) (pv 1) pe_str (fun _ _ => rfl))) (blkOk_by (N := ["voter", "box", "pick", "more", "wanted", "seat", "own", "one"]) (sc := defScope s_law_votes) (by decide +kernel)) (fun _ _ _ _ _ => pg_name (i := 5) sc_law_votes.nd rfl (Or.inl rfl)) (fun _ _ _ _ _ => pts_one (pt_cmpR (u_notinK K) (pv 5) (pe_dget (hu_of hr) (pv 1) pe_str (fun _ _ => rfl)) (by rfl))) (fun _ _ _ _ _ => (pv 5)))
    (pss_cons (ps_set (i := 5) sc_law_votes.nd rfl (Or.inr rfl) (pe_ix ix_list (pv 4) (pe_op op_mod (pv 2) (pe_callB call_len_seq (by rfl) T.len (by decide +kernel) (pa_cons (pv 4) pa_nil))) (fun _ _ => rfl)))
    (pss_cons (ps_set (i := 6) sc_law_votes.nd rfl (Or.inl rfl) (pe_ix ix_tup (pe_dget (hu_of hr) (pv 1) pe_str (fun _ _ => rfl)) pe_int (fun _ _ => rfl)))
    (pss_cons (ps_asg (pe_callB (call_max2 rfl) (by rfl) T.max (by decide +kernel) (pa_cons (pe_ix ix_list (pe_dget (hu_of hr) (pv 1) pe_str (fun _ _ => rfl)) (pv 5) (fun _ _ => rfl)) (pa_cons (pe_op op_add (pv 6) (pv 3)) pa_nil))) (pg_sub (pe_dget (hu_of hr) (pv 1) pe_str (fun _ _ => rfl)) (pv 5) set_list))
    (pss_cons (ps_asg (pe_callB (call_max2 rfl) (by rfl) T.max (by decide +kernel) (pa_cons (pe_dget (hu_of hr) (pv 1) pe_str (fun _ _ => rfl)) (pa_cons (pe_ix ix_list (pe_dget (hu_of hr) (pv 1) pe_str (fun _ _ => rfl)) (pv 5) (fun _ _ => rfl)) pa_nil))) (pg_sub (pv 1) pe_str (set_dict (hu_of hr))))
    (pss_cons (ps_expr (pe_bm PySem.F.plainAttrs_list PySem.F.slot_list_append PySem.F.type_list_append mt_append (pe_dget (hu_of hr) (pv 1) pe_str (fun _ _ => rfl)) (pa_cons (pv 5) pa_nil)))
    (pss_cons (ps_expr (pe_bm PySem.F.plainAttrs_list PySem.F.slot_list_append PySem.F.type_list_append mt_append (pe_dget (hu_of hr) (pv 1) pe_str (fun _ _ => rfl)) (pa_cons (pv 5) pa_nil)))
    (pss_cons (ps_asg (pe_lc (own := [("one", 7)]) (g := gName 7)  (by rfl) sc_law_votes.nd (pi_list (pe_dget (hu_of hr) (pv 1) pe_str (fun _ _ => rfl))) (blkOk_by (N := ["voter", "box", "pick", "more", "wanted", "seat", "own", "one"]) (sc := defScope s_law_votes) (by decide +kernel)) (fun _ _ _ _ _ => pg_name (i := 7) sc_law_votes.nd rfl (Or.inl rfl)) (fun _ _ _ _ _ => pts_one (pt_cmpR op_ne (pe_ix (ix_tupK K) (pv 7) pe_int (fun _ _ => rfl)) (pv 5) (nomark _))) (fun _ _ _ _ _ => (pv 7))) (pg_sub (pv 1) pe_str (set_dict (hu_of hr))))
    (pss_cons (ps_if (pt_cmpR op_eq (pe_callB call_len_seq (by rfl) T.len (by decide +kernel) (pa_cons (pe_dget (hu_of hr) (pv 1) pe_str (fun _ _ => rfl)) pa_nil)) (pe_callB call_len_seq (by rfl) T.len (by decide +kernel) (pa_cons (pe_dget (hu_of hr) (pv 1) pe_str (fun _ _ => rfl)) pa_nil)) (nomark _))
    (pss_one (ps_asg pe_str (pg_sub (pv 1) pe_str (set_dict (hu_of hr)))))
    pss_nil)
    (pss_one (ps_ret (pe_cal C_same free (hr.mono (by decide)) (pa_cons (pe_meth (pv 0) VT.cl mA GA hr2 bA .nil pass0 (pa_cons (pv 5) (pa_cons (pe_tup (pa_cons pe_str (pa_cons (pv 6) (pa_cons pe_int (pa_cons (pe_ix ix_list (pe_dget (hu_of hr) (pv 1) pe_str (fun _ _ => rfl)) (pv 5) (fun _ _ => rfl)) pa_nil))))) pa_nil))) (pa_cons (pe_lst pa_nil) pa_nil)))))))))))))), ?_⟩
  refine ⟨_, rfl, b, _, rfl, .inl ⟨_, kS "set", .inl kb, rfl, (boxL_se _ _ _ _ _ _ _ _ _ _).symm⟩, se, rfl, ⟨_, F0.st⟩, fun D hD => ?_⟩
  refine lc_tup (K := K) (a := se) (xs := ss.map V.int) (fun i G => Same H G ∧ G D = some (.lst (((ss.take i).filter fun y => !decide (y ∈ hb)).map V.int))) ⟨same_upd hD, upd_same⟩ (fun i G _ h => sqt_same h.1 F0.st) ?_ ?_
  · rintro i x G hx ⟨sG, kD⟩
    obtain ⟨k, hk, rfl⟩ : ∃ k : Int, ss[i]? = some k ∧ x = .int k := by
      rw [List.getElem?_map] at hx
      cases z : ss[i]? with
      | none => rw [z] at hx; cases hx
      | some k => rw [z] at hx; exact ⟨k, rfl, (Option.some.inj hx).symm⟩
    have li := (List.getElem?_eq_some_iff.mp hk).1
    refine ⟨rfl, _, rfl, _, rfl, b, _, rfl, .inl ⟨_, kS "hand", .inl (sG _ _ kb), rfl, (boxL_ha _ _ _ _ _ _ _ _ _ _).symm⟩, .inl ⟨ha, _, rfl, .inl (SqL.of (sG _ _ F0.kh)), rfl, flat_ints _, _, rfl, ?_⟩⟩
    rw [inV_ints]
    refine ite2 (fun c4 => ?_) (fun c4 => ?_)
    · refine ⟨_, rfl, _, kD, ?_, fun b o e => ?_, ?_⟩
      · rw [List.length_map]
        exact Nat.lt_of_lt_of_le (show _ < 2000 from Nat.lt_of_le_of_lt (List.length_filter_le ..) (by rw [List.length_take]; omega)) (by decide)
      · rw [upd_ne (ne_of_none e hD)]
        exact sG _ _ e
      · rw [List.take_add_one, hk, List.filter_append, Option.toList_some, List.filter_cons, if_pos (show (!decide (k ∈ hb)) = true from c4), List.filter_nil, List.map_append]
        exact upd_same
    · refine ⟨sG, ?_⟩
      rw [List.take_add_one, hk, List.filter_append, Option.toList_some, List.filter_cons, if_neg (show ¬ (!decide (k ∈ hb)) = true from c4), List.filter_nil, List.append_nil]
      exact kD
  rintro G ⟨sG, kD⟩
  rw [List.length_map, List.take_length] at kD
  have F1 := F0.same sG
  have k1 := sG _ _ kb
  obtain ⟨wl, ewl⟩ : ∃ wl, wl = ss.filter fun y => !decide (y ∈ hb) := ⟨_, rfl⟩
  rw [← ewl] at kD
  have wpos : 0 < wl.length := List.length_pos_of_mem (a := x0) (by rw [ewl, List.mem_filter]; exact ⟨hx0, by simp [nx0]⟩)
  have m0 := Int.emod_nonneg pick (show (wl.length : Int) ≠ 0 by omega)
  have m1 := Int.emod_lt_of_pos pick (show 0 < (wl.length : Int) by omega)
  obtain ⟨j, ej⟩ : ∃ j : Nat, pick % (wl.length : Int) = (j : Int) := ⟨(pick % (wl.length : Int)).toNat, by omega⟩
  have jl : j < wl.length := by omega
  obtain ⟨seat, hseat⟩ : ∃ seat, wl[j]? = some seat := ⟨_, List.getElem?_eq_getElem jl⟩
  have mseat := List.mem_of_getElem? hseat
  rw [ewl, List.mem_filter] at mseat
  obtain ⟨sin, snin⟩ := mseat
  have snin : seat ∉ hb := by simpa using snin
  obtain ⟨z0, z1⟩ := slow seat sin
  refine ⟨_, rfl, _, rfl, _, rfl, D, _, rfl, .inl (SqL.of kD), _, _, rfl, rfl, ?_, D, _, _, .int seat, rfl, rfl, SqL.of kD, ?_, ?_⟩
  · rw [List.length_map]
    show (0 : Int) < (wl.length : Int)
    omega
  · rw [List.length_map, ej]
    exact atI_nat (by rw [List.getElem?_map, hseat]; rfl)
  have ht1 := sqt_same sG ht
  refine ⟨_, rfl, b, _, rfl, .inl ⟨_, kS "stamp", .inl k1, rfl, (boxL_sp _ _ _ _ _ _ _ _ _ _).symm⟩, t, _, _, _, rfl, rfl, ht1, atI_nat (j := 0) rfl, ?_⟩
  obtain ⟨sn, rfl⟩ : ∃ sn : Nat, seat = (sn : Int) := ⟨seat.toNat, by omega⟩
  have sl : sn < tl.length := by rw [pi.tlen]; omega
  obtain ⟨tv, htv⟩ : ∃ tv, tl[sn]? = some tv := ⟨_, List.getElem?_eq_getElem sl⟩
  have att : atI (tl.map V.int) (sn : Int) = some (.int tv) := atI_nat (by rw [List.getElem?_map, htv]; rfl)
  obtain ⟨nv, env⟩ : ∃ nv : Int, nv = if own + more > tv then own + more else tv := ⟨_, rfl⟩
  refine ⟨_, rfl, b, _, rfl, .inl ⟨_, kS "tells", .inl k1, rfl, (boxL_ta _ _ _ _ _ _ _ _ _ _).symm⟩, _, rfl, ta, _, _, _, rfl, rfl, SqL.of F1.kt, att, _, rfl, _, rfl, _, _, rfl, rfl, _, _, rfl, ?_⟩
  refine ⟨_, rfl, b, _, rfl, .inl ⟨_, kS "tells", .inl k1, rfl, (boxL_ta _ _ _ _ _ _ _ _ _ _).symm⟩, _, rfl, ta, _, _, sn, rfl, rfl, F1.kt, ?_, ?_⟩
  · unfold ixN
    rw [if_pos (by omega), if_pos (by rw [List.length_map]; omega), Int.toNat_natCast]
  have eT : (tl.map V.int).set sn (V.int (if own + more > tv then own + more else tv)) = (tl.set sn nv).map V.int := by rw [env, List.map_set]
  rw [eT]
  have F2 := F1.tells (tl' := tl.set sn nv)
  have bt : b ≠ ta := ne_of k1 F1.kt (by intro z; cases z)
  have k2 : (upd G ta (.lst ((tl.set sn nv).map V.int))) b = some (.dK (boxL me "asking" (.ref t) ha oa la ta bg cnt se)) := (upd_ne bt).trans k1
  have att2 : atI ((tl.set sn nv).map V.int) (sn : Int) = some (.int nv) := atI_nat (by rw [List.getElem?_map, List.getElem?_set_self sl]; rfl)
  have D2n : ∀ {a : Addr} {xs : List V}, SqT K G a xs → SqT K (upd G ta (.lst ((tl.set sn nv).map V.int))) a xs := fun z => sqt_mut F1.kt lst_no Chg.self z
  have ht2 := D2n ht1
  obtain ⟨G2, eG2⟩ : ∃ G2, G2 = upd G ta (.lst ((tl.set sn nv).map V.int)) := ⟨_, rfl⟩
  rw [← eG2] at F2 k2 ht2
  rw [← eG2]
  obtain ⟨cn, ecn⟩ : ∃ cn : Int, cn = if nv > cnt then nv else cnt := ⟨_, rfl⟩
  refine ⟨_, rfl, b, _, rfl, .inl ⟨_, kS "count", .inl k2, rfl, (boxL_cn _ _ _ _ _ _ _ _ _ _).symm⟩, _, rfl, b, _, rfl, .inl ⟨_, kS "tells", .inl k2, rfl, (boxL_ta _ _ _ _ _ _ _ _ _ _).symm⟩, _, rfl, ta, _, _, _, rfl, rfl, SqL.of F2.kt, att2, _, _, rfl, _, rfl, b, _, rfl, .inl ⟨_, kS "count", k2, rfl, box_len, rfl⟩, ?_⟩
  rw [← ecn, boxL_put_cn]
  have F3 := F2.dict k2 (Chg.self (o := .dK (boxL me "asking" (.ref t) ha oa la ta bg cn se)))
  have ht3 := sqt_mut k2 dK_no (Chg.self (o := .dK (boxL me "asking" (.ref t) ha oa la ta bg cn se))) ht2
  obtain ⟨G3, eG3⟩ : ∃ G3, G3 = upd G2 b (.dK (boxL me "asking" (.ref t) ha oa la ta bg cn se)) := ⟨_, rfl⟩
  have k3 : G3 b = some (.dK (boxL me "asking" (.ref t) ha oa la ta bg cn se)) := by rw [eG3]; exact upd_same
  rw [← eG3] at F3 ht3
  rw [← eG3]
  refine ⟨_, rfl, b, _, rfl, .inl ⟨_, kS "hand", .inl k3, rfl, (boxL_ha _ _ _ _ _ _ _ _ _ _).symm⟩, .inl ⟨rfl, _, SqL.of F3.kh⟩, _, rfl, ha, _, _, rfl, rfl, F3.kh, by rw [List.length_map]; exact Nat.lt_of_lt_of_le (show hb.length < 100 by omega) (by decide), ?_⟩
  rw [show hb.map V.int ++ [V.int (sn : Int)] = (hb ++ [(sn : Int)]).map V.int by rw [List.map_append]; rfl]
  have F4 := F3.hand (hb' := hb ++ [(sn : Int)])
  have bh : b ≠ ha := ne_of k3 F3.kh (by intro z; cases z)
  have k4 := (upd_ne (o := .lst ((hb ++ [(sn : Int)]).map V.int)) bh).trans k3
  have ht4 := sqt_mut F3.kh lst_no (Chg.self (o := .lst ((hb ++ [(sn : Int)]).map V.int))) ht3
  refine ⟨_, rfl, b, _, rfl, .inl ⟨_, kS "open", .inl k4, rfl, (boxL_oa _ _ _ _ _ _ _ _ _ _).symm⟩, .inl ⟨rfl, _, SqL.of F4.ko⟩, _, rfl, oa, _, _, rfl, rfl, F4.ko, by rw [List.length_map]; exact Nat.lt_of_lt_of_le (show ob.length < 100 by omega) (by decide), ?_⟩
  rw [show ob.map V.int ++ [V.int (sn : Int)] = (ob ++ [(sn : Int)]).map V.int by rw [List.map_append]; rfl]
  have F5 := F4.open_ (ob' := ob ++ [(sn : Int)])
  have bo : b ≠ oa := ne_of k4 F4.ko (by intro z; cases z)
  have k5 := (upd_ne (o := .lst ((ob ++ [(sn : Int)]).map V.int)) bo).trans k4
  have ht5 := sqt_mut F4.ko lst_no (Chg.self (o := .lst ((ob ++ [(sn : Int)]).map V.int))) ht4
  obtain ⟨G5, eG5⟩ : ∃ G5, G5 = upd (upd G3 ha (.lst ((hb ++ [(sn : Int)]).map V.int))) oa (.lst ((ob ++ [(sn : Int)]).map V.int)) := ⟨_, rfl⟩
  rw [← eG5] at F5 k5 ht5
  rw [← eG5]
  refine ⟨_, rfl, b, _, rfl, .inl ⟨_, kS "late", .inl k5, rfl, (boxL_la _ _ _ _ _ _ _ _ _ _).symm⟩, la, rfl, ⟨_, SqL.of F5.kl⟩, fun D6 hD6 => ?_⟩
  refine lc_list (K := K) (a := la) (xs := las.map V.ref) (fun i G => Same G5 G ∧ ∃ (ls : List Addr) (lt' : List (List Int)), G D6 = some (.lst (ls.map V.ref)) ∧ Tups K G ls lt' ∧ lt'.length ≤ i ∧ ∀ e ∈ lt', e ∈ lt) ⟨same_upd hD6, [], [], upd_same, ⟨rfl, fun i t one h => by simp at h⟩, Nat.le_refl _, fun e h => by simp at h⟩ (fun i G _ h => SqL.of (h.1 _ _ F5.kl)) ?_ ?_
  · rintro i x G hx ⟨sG6, ls, lt', kD6, hT6, le6, sub6⟩
    have il : i < las.length := by
      have := (List.getElem?_eq_some_iff.mp hx).1
      rwa [List.length_map] at this
    have il2 : i < lt.length := by rw [← F5.tp.1]; exact il
    have e1 : las[i]? = some las[i] := List.getElem?_eq_getElem il
    have e2 : lt[i]? = some lt[i] := List.getElem?_eq_getElem il2
    rw [List.getElem?_map, e1] at hx
    cases hx
    have hq := sqt_same sG6 (F5.tp.2 i _ _ e1 e2)
    obtain ⟨s1, c1, el, _, _⟩ := pi.late _ (List.mem_of_getElem? e2)
    have hq2 : SqT K G las[i] [.int s1, .int c1] := by rw [el] at hq; exact hq
    have l8 := pi.llen
    refine ⟨rfl, _, rfl, las[i], _, _, _, rfl, rfl, hq2, atI_nat (j := 0) rfl, _, rfl, rfl, _, rfl, ?_⟩
    refine ite2 (fun c4 => ?_) (fun c4 => ?_)
    · refine ⟨_, rfl, _, kD6, ?_, fun b o e => ?_, ls ++ [las[i]], lt' ++ [lt[i]], by rw [upd_same, List.map_append]; rfl, ?_, by rw [List.length_append, List.length_singleton]; omega, fun e he => ?_⟩
      · rw [List.length_map, hT6.1]
        exact Nat.lt_of_lt_of_le (show _ < 100 by omega) (by decide)
      · rw [upd_ne (ne_of_none e hD6)]
        exact sG6 _ _ e
      · exact tups_snoc (tups_mut kD6 lst_no Chg.self hT6) (sqt_mut kD6 lst_no Chg.self hq)
      · rcases List.mem_append.mp he with h | h
        · exact sub6 e h
        · rw [List.mem_singleton.mp h]
          exact List.mem_of_getElem? e2
    · exact ⟨sG6, ls, lt', kD6, hT6, by omega, sub6⟩
  rintro G6 ⟨sG6, ls, lt', kD6, hT6, le6, sub6⟩
  rw [List.length_map, F5.tp.1] at le6
  have F6 := F5.newlate hD6 sG6 kD6 hT6
  have k6 := sG6 _ _ k5
  refine ⟨_, rfl, b, _, rfl, .inl ⟨_, kS "late", k6, rfl, box_len, rfl⟩, ?_⟩
  rw [boxL_put_la]
  have F7 := F6.dict k6 (Chg.self (o := .dK (boxL me "asking" (.ref t) ha oa D6 ta bg cn se)))
  have ht7 := sqt_mut k6 dK_no (Chg.self (o := .dK (boxL me "asking" (.ref t) ha oa D6 ta bg cn se))) (sqt_same sG6 ht5)
  obtain ⟨G7, eG7⟩ : ∃ G7, G7 = upd G6 b (.dK (boxL me "asking" (.ref t) ha oa D6 ta bg cn se)) := ⟨_, rfl⟩
  have k7 : G7 b = some (.dK (boxL me "asking" (.ref t) ha oa D6 ta bg cn se)) := by rw [eG7]; exact upd_same
  rw [← eG7] at F7 ht7
  rw [← eG7]
  have nd' : (hb ++ [(sn : Int)]).Nodup := by
    rw [List.nodup_append]
    exact ⟨pi.hnd, by simp, fun a ha b hb => by rw [List.mem_singleton.mp hb]; exact fun z => snin (by rw [← z]; exact ha)⟩
  have sub' : ∀ x ∈ hb ++ [(sn : Int)], x ∈ ss := fun x hx => by
    rcases List.mem_append.mp hx with h | h
    · exact pi.hsub x h
    · rw [List.mem_singleton.mp h]; exact sin
  have iff' := all_in snd nd' sub'
  have ond' : (ob ++ [(sn : Int)]).Nodup := by
    rw [List.nodup_append]
    exact ⟨pi.ond, by simp, fun a ha b hb => by rw [List.mem_singleton.mp hb]; exact fun z => snin (by rw [← z]; exact pi.osub a ha)⟩
  have osub' : ∀ x ∈ ob ++ [(sn : Int)], x ∈ hb ++ [(sn : Int)] := fun x hx => by
    rcases List.mem_append.mp hx with h | h
    · exact List.mem_append_left _ (pi.osub x h)
    · exact List.mem_append_right _ h
  have cge : cnt ≤ cn := by rw [ecn]; split <;> omega
  have lhs : hs.length < 50 := by
    have h1 := fit_len hs hb (up.imp fun h => by omega) fun x hx => (mem x).mp hx
    omega
  refine ⟨_, rfl, b, _, rfl, .inl ⟨_, kS "hand", .inl k7, rfl, (boxL_ha _ _ _ _ _ _ _ _ _ _).symm⟩, ha, _, rfl, .inl (SqL.of F7.kh), _, rfl, b, _, rfl, .inl ⟨_, kS "set", .inl k7, rfl, (boxL_se _ _ _ _ _ _ _ _ _ _).symm⟩, se, _, rfl, .inr F7.st, rfl, _, rfl, ?_⟩
  rw [dec_ii, List.length_map, List.length_map]
  by_cases c : (hb ++ [(sn : Int)]).length = ss.length
  · refine iteT' (decide_eq_true (by omega)) ?_
    refine ⟨_, rfl, b, _, rfl, .inl ⟨_, kS "state", k7, rfl, box_len, rfl⟩, ?_⟩
    rw [boxL_put_stt]
    have F8 := F7.dict k7 (Chg.self (o := .dK (boxL me "in" (.ref t) ha oa D6 ta bg cn se)))
    have ht8 := sqt_mut k7 dK_no (Chg.self (o := .dK (boxL me "in" (.ref t) ha oa D6 ta bg cn se))) ht7
    have k8 : (upd G7 b (.dK (boxL me "in" (.ref t) ha oa D6 ta bg cn se))) b = some (.dK (boxL me "in" (.ref t) ha oa D6 ta bg cn se)) := upd_same
    have dc := decide_eq_true c
    have fin : ("in" : Str) = "in" ∧ ∀ x ∈ ss, x ∈ hb ++ [(sn : Int)] := ⟨rfl, iff'.mpr c⟩
    obtain ⟨sv, hnd, knw, dsk, sett, tas, R⟩ := id (F8).vo
    refine ⟨_, rfl, p, dx, _, rfl, R.hp, (voF_no _ _ _ _ _ _ _ _ _ _ _ (by decide +kernel) (by decide +kernel) (by decide +kernel) (by decide +kernel) (by decide +kernel) (by decide +kernel) (by decide +kernel) (by decide +kernel) (by decide +kernel) (by decide +kernel) (by decide +kernel)), ?_⟩
    refine ⟨_, rfl, _, rfl, _, rfl, b, _, rfl, .inl ⟨_, kS "tells", .inl (k8), rfl, (boxL_ta _ _ _ _ _ _ _ _ _ _).symm⟩, _, rfl, ta, _, _, _, rfl, rfl, SqL.of (F8).kt, att2, by show 4 ≤ sizeLine; decide, fun u hu => ?_⟩
    have s9 := same_upd (o := .tup [.str "vote", .int own, .int 0, .int nv]) hu
    refine ⟨p, dx, sa, u, me, cnt, fst, own, (sn : Int), "asking", some own, hs, ss, S, rfl, (F8).vo.same s9, lhs, by omega, .inl ⟨nv, SqT.of upd_same, rfl, rfl, fun hs' l H9 up9 mem9 hl cg kl V9 => ?_⟩⟩
    have F9 := ((F8).same s9).voter cg V9
    have bp : b ≠ p := ne_of (k8) R.hp (by intro z; cases z)
    have k9 := cg _ _ bp (s9 _ _ (k8))
    refine ⟨Nat.zero_le _, fun E1 hE1 => ?_⟩
    have sE := same_upd (o := .lst []) hE1
    refine ⟨V.ref l, V.ref E1, rfl, .inr ⟨l, E1, [], [], [], 2, rfl, rfl, sE _ _ kl, upd_same, .nil, .nil, rfl, by show 0 < 10000; decide, fun d h => by simp at h⟩, ?_⟩
    have memx : ∀ x : Int, x ∈ hs' ↔ x ∈ hb ++ [(sn : Int)] := fun x => by rw [mem9, mem, List.mem_append, List.mem_singleton]
    have eall : (ss.all fun s => decide (s ∈ hs')) = decide ((hb ++ [(sn : Int)]).length = ss.length) := by
      rw [Bool.eq_iff_iff, List.all_eq_true, decide_eq_true_iff, ← iff']
      exact ⟨fun h x hx => (memx x).mp (of_decide_eq_true (h x hx)), fun h x hx => decide_eq_true ((memx x).mpr (h x hx))⟩
    refine q _ ⟨"in", some own, cn, ha, oa, D6, ta, hb ++ [(sn : Int)], ob ++ [(sn : Int)], lt', tl.set sn nv, ⟨hs', ls, ?_, up9, memx⟩, ⟨.ref t, sE _ _ k9, dp_stp (sqt_same sE (sqt_mut (s9 _ _ R.hp) ins_no cg (sqt_same s9 (ht8))))⟩, ?_⟩
    · rw [if_neg n_io]
      have F10 := F9.same sE
      rw [eall, dc] at F10
      rw [ecn]
      exact F10
    · refine ⟨nd', sub', ond', osub', by rw [List.length_set]; exact pi.tlen, by have := pi.llen; omega, fun e he => ?_, .inr ⟨own, rfl, by omega, (.inr fin)⟩⟩
      obtain ⟨s1, c1, e1, h1, h2⟩ := pi.late e (sub6 e he)
      exact ⟨s1, c1, e1, by omega, h2⟩
  · refine iteF' (decide_eq_false (by omega)) ?_
    have dc := decide_eq_false c
    have fin : ∃ x ∈ ss, x ∉ hb ++ [(sn : Int)] := by
      refine Classical.byContradiction fun h => c (iff'.mp fun x hx => Classical.byContradiction fun z => h ⟨x, hx, z⟩)
    obtain ⟨sv, hnd, knw, dsk, sett, tas, R⟩ := id (F7).vo
    refine ⟨_, rfl, p, dx, _, rfl, R.hp, (voF_no _ _ _ _ _ _ _ _ _ _ _ (by decide +kernel) (by decide +kernel) (by decide +kernel) (by decide +kernel) (by decide +kernel) (by decide +kernel) (by decide +kernel) (by decide +kernel) (by decide +kernel) (by decide +kernel) (by decide +kernel)), ?_⟩
    refine ⟨_, rfl, _, rfl, _, rfl, b, _, rfl, .inl ⟨_, kS "tells", .inl (k7), rfl, (boxL_ta _ _ _ _ _ _ _ _ _ _).symm⟩, _, rfl, ta, _, _, _, rfl, rfl, SqL.of (F7).kt, att2, by show 4 ≤ sizeLine; decide, fun u hu => ?_⟩
    have s9 := same_upd (o := .tup [.str "vote", .int own, .int 0, .int nv]) hu
    refine ⟨p, dx, sa, u, me, cnt, fst, own, (sn : Int), "asking", some own, hs, ss, S, rfl, (F7).vo.same s9, lhs, by omega, .inl ⟨nv, SqT.of upd_same, rfl, rfl, fun hs' l H9 up9 mem9 hl cg kl V9 => ?_⟩⟩
    have F9 := ((F7).same s9).voter cg V9
    have bp : b ≠ p := ne_of (k7) R.hp (by intro z; cases z)
    have k9 := cg _ _ bp (s9 _ _ (k7))
    refine ⟨Nat.zero_le _, fun E1 hE1 => ?_⟩
    have sE := same_upd (o := .lst []) hE1
    refine ⟨V.ref l, V.ref E1, rfl, .inr ⟨l, E1, [], [], [], 2, rfl, rfl, sE _ _ kl, upd_same, .nil, .nil, rfl, by show 0 < 10000; decide, fun d h => by simp at h⟩, ?_⟩
    have memx : ∀ x : Int, x ∈ hs' ↔ x ∈ hb ++ [(sn : Int)] := fun x => by rw [mem9, mem, List.mem_append, List.mem_singleton]
    have eall : (ss.all fun s => decide (s ∈ hs')) = decide ((hb ++ [(sn : Int)]).length = ss.length) := by
      rw [Bool.eq_iff_iff, List.all_eq_true, decide_eq_true_iff, ← iff']
      exact ⟨fun h x hx => (memx x).mp (of_decide_eq_true (h x hx)), fun h x hx => decide_eq_true ((memx x).mpr (h x hx))⟩
    refine q _ ⟨"asking", some own, cn, ha, oa, D6, ta, hb ++ [(sn : Int)], ob ++ [(sn : Int)], lt', tl.set sn nv, ⟨hs', ls, ?_, up9, memx⟩, ⟨.ref t, sE _ _ k9, dp_stp (sqt_same sE (sqt_mut (s9 _ _ R.hp) ins_no cg (sqt_same s9 (ht7))))⟩, ?_⟩
    · rw [if_neg n_ao]
      have F10 := F9.same sE
      rw [eall, dc] at F10
      rw [ecn]
      exact F10
    · refine ⟨nd', sub', ond', osub', by rw [List.length_set]; exact pi.tlen, by have := pi.llen; omega, fun e he => ?_, .inr ⟨own, rfl, by omega, (.inl ⟨rfl, fin⟩)⟩⟩
      obtain ⟨s1, c1, e1, h1, h2⟩ := pi.late e (sub6 e he)
      exact ⟨s1, c1, e1, by omega, h2⟩
end

end G0
namespace G0
open PySem PySem.Spec PyProof.Rows L2 NdefX ClX
theorem map_eraseG {α : Type} (f : α → V) : ∀ (xs : List α) (i : Nat), (xs.map f).eraseIdx i = (xs.eraseIdx i).map f
  | [], i => by simp
  | x :: xs, 0 => rfl
  | x :: xs, i + 1 => by
    rw [List.map_cons, List.eraseIdx_cons_succ, List.eraseIdx_cons_succ, List.map_cons, map_eraseG f xs i]
theorem erase_perm : ∀ (xs : List Int) (i : Nat) (v : Int), xs[i]? = some v → (v :: xs.eraseIdx i).Perm xs
  | [], i, v, h => by simp at h
  | x :: xs, 0, v, h => by
    cases h
    exact List.Perm.refl _
  | x :: xs, i + 1, v, h => by
    rw [List.eraseIdx_cons_succ]
    exact (List.Perm.swap x v _).trans ((erase_perm xs i v h).cons x)
theorem seq_ix {j n : Nat} (h : j < n) : seqIndex? (j : Int) n = some j := by
  unfold seqIndex?
  simp only [if_neg (show ¬ (j : Int) < 0 by omega)]
  rw [if_pos (by simp; omega)]
  simp
section
variable {P : Program} {w : World} {K : PySem.W.Frag} {mg : Str → Option Value} {base : Heap} {C CB : Addr}
theorem tups_erase {H : Hp} {tas : List Addr} {S : List (List Int)} (h : Tups K H tas S) (j : Nat) : Tups K H (tas.eraseIdx j) (S.eraseIdx j) := by
  refine ⟨?_, fun i t one h1 h2 => ?_⟩
  · rw [List.length_eraseIdx, List.length_eraseIdx, h.1]
  · rw [List.getElem?_eraseIdx] at h1 h2
    by_cases c : i < j
    · rw [if_pos c] at h1 h2
      exact h.2 i t one h1 h2
    · rw [if_neg c] at h1 h2
      exact h.2 (i + 1) t one h1 h2
/-! ### asked back -/
def spABV (K : PySem.W.Frag) (C : Addr) : Sp := fun vs H Q _ => ∃ (L b p dx sa se ha oa la ta : Addr) (cs ss : List Int) (me fst cnt pick : Int) (S : List (List Int)) (bg : V) (stt : Str) (stp : Option Int) (hb ob tl : List Int) (lt : List (List Int)), vs = [.ref p, .ref b, .int pick] ∧ Cst S ss me fst bg ∧ ob ≠ [] ∧
  Wd K C L b p dx sa se cs me fst S ss bg H stt stp cnt ha oa la ta hb ob lt tl ∧ ∀ H', WdX K C L b p dx sa se cs me fst S ss bg H' → Q (.bl true) H'
theorem sc_law_asked_back : FnScope ["voter", "box", "pick", "seat", "own", "due", "one"] ["voter", "box", "pick"] (defScope s_law_asked_back) :=
  ⟨rfl, rfl, rfl, by decide +kernel, rfl, by decide +kernel, by decide +kernel⟩
theorem ok_abV (F : Fn K mg "_law_asked_back" s_law_asked_back) (T : BlV mg) (VT : VoT K C) (MH : Me P w K mg base CX0 C "hear" 2 ["self", "sender", "letter"] (spHearV K C)) (C_same : Cal P w K mg base "_law_same" 4 ["found", "due"] (spSameD K 3)) : Cal P w K mg base "_law_asked_back" 5 ["voter", "box", "pick"] (spABV K C) := by
  obtain ⟨fA, fdA, GA, bA, mA⟩ := MH
  refine cal_of F sc_law_asked_back
    (fun _ _ _ _ _ _ us hl => match us, hl with | [_, _, _], _ => rfl) ?_ ?_
  · rintro vs H Q E ⟨L, b, p, _, _, _, _, _, _, _, _, _, _, _, _, _, _, _, _, _, _, _, _, _, rfl, _⟩
    rfl
  rintro f cdv A outer s H vs Q E free hr ⟨L, b, p, dx, sa, se, ha, oa, la, ta, cs, ss, me, fst, cnt, pick, S, bg, stt, stp, hb, ob, tl, lt, rfl, cst, one, W, q⟩
  obtain ⟨⟨hs, las, F0, up, mem⟩, ⟨sp, kb, dsp⟩, pi⟩ := W
  obtain ⟨sne, snd, slen, slow⟩ := cst.ss
  obtain ⟨own, rfl, oc, hst⟩ : ∃ own, stp = some own ∧ own ≤ cnt ∧ ((stt = "asking" ∧ ∃ x ∈ ss, x ∉ hb) ∨ (stt = "in" ∧ ∀ x ∈ ss, x ∈ hb)) := by
    rcases pi.st with ⟨_, _, _, e⟩ | h
    · exact absurd e one
    · exact h
  have lhb : hb.length ≤ 8 := by
    have h1 := fit_len _ _ pi.hnd pi.hsub
    omega
  have lhs : hs.length < 50 := by
    have h1 := fit_len hs hb (up.imp fun h => by omega) fun x hx => (mem x).mp hx
    omega
  have hr2 : Room 2 _ := hr.mono (by decide)
  obtain ⟨t, rfl, ht⟩ := stp_at dsp
  have no : stt ≠ "out" := by
    rcases hst with ⟨e, _⟩ | ⟨e, _⟩
    · rw [e]; exact n_ao
    · rw [e]; exact n_io
  rw [if_neg no] at F0
  refine ⟨_, (pss_cons (ps_set (i := 3) sc_law_asked_back.nd rfl (Or.inr rfl) (pe_bm PySem.F.plainAttrs_list PySem.F.slot_list_pop PySem.F.type_list_pop mt_popAt (pe_dget (hu_of hr) (pv 1) pe_str (fun _ _ => rfl)) (pa_cons (pe_op op_mod (pv 2) (pe_callB call_len_seq (by rfl) T.len (by decide +kernel) (pa_cons (pe_dget (hu_of hr) (pv 1) pe_str (fun _ _ => rfl)) pa_nil))) pa_nil)))
    (pss_cons (ps_set (i := 4) sc_law_asked_back.nd rfl (Or.inl rfl) (pe_ix ix_tup (pe_dget (hu_of hr) (pv 1) pe_str (fun _ _ => rfl)) pe_int (fun _ _ => rfl)))
    (pss_cons (ps_set (i := 5) sc_law_asked_back.nd rfl (Or.inl rfl) (pe_lst pa_nil))
    (pss_cons (ps_if (pt_cmpR op_eq (pe_dget (hu_of hr) (pv 1) pe_str (fun _ _ => rfl)) pe_str (nomark _))
    (pss_cons (ps_asg (pe_lc (own := [("one", 6)]) (g := gName 6)  (by rfl) sc_law_asked_back.nd (pi_list (pe_dget (hu_of hr) (pv 1) pe_str (fun _ _ => rfl))) (blkOk_by (N := ["voter", "box", "pick", "seat", "own", "due", "one"]) (sc := defScope s_law_asked_back) (by decide +kernel)) (fun _ _ _ _ _ => pg_name (i := 6) sc_law_asked_back.nd rfl (Or.inl rfl)) (fun _ _ _ _ _ => pts_one (pt_cmpR op_ne (pv 6) (pv 3) (nomark _))) (fun _ _ _ _ _ => (pv 6))) (pg_sub (pv 1) pe_str (set_dict (hu_of hr))))
    (pss_one (ps_set (i := 5) sc_law_asked_back.nd rfl (Or.inl rfl) (pe_lst (pa_cons (pe_tup (pa_cons (pv 3) (pa_cons (pe_tup (pa_cons pe_str (pa_cons (pv 4) (pa_cons pe_int pa_nil)))) pa_nil))) pa_nil)))))
    pss_nil)
    (pss_one (ps_ret (pe_cal C_same free (hr.mono (by decide)) (pa_cons (pe_meth (pv 0) VT.cl mA GA hr2 bA .nil pass0 (pa_cons (pv 3) (pa_cons (pe_tup (pa_cons pe_str (pa_cons (pv 4) (pa_cons pe_int pa_nil)))) pa_nil))) (pa_cons (pv 5) pa_nil))))))))), ?_⟩
  have opos : 0 < ob.length := List.length_pos_iff.mpr one
  have m0 := Int.emod_nonneg pick (show (ob.length : Int) ≠ 0 by omega)
  have m1 := Int.emod_lt_of_pos pick (show 0 < (ob.length : Int) by omega)
  obtain ⟨j, ej⟩ : ∃ j : Nat, pick % (ob.length : Int) = (j : Int) := ⟨(pick % (ob.length : Int)).toNat, by omega⟩
  have jl : j < ob.length := by omega
  have lob : ob.length ≤ 8 := by
    have h1 := fit_len _ _ pi.ond pi.osub
    omega
  obtain ⟨seat, hseat⟩ : ∃ seat, ob[j]? = some seat := ⟨_, List.getElem?_eq_getElem jl⟩
  have perm := erase_perm ob j seat hseat
  have sob := List.mem_of_getElem? hseat
  have shb := pi.osub _ sob
  obtain ⟨ndS, ndE⟩ := List.nodup_cons.mp (perm.nodup_iff.mpr pi.ond)
  refine ⟨_, rfl, b, _, rfl, .inl ⟨_, kS "open", .inl kb, rfl, (boxL_oa _ _ _ _ _ _ _ _ _ _).symm⟩, .inl ⟨rfl, _, SqL.of F0.ko⟩, _, rfl, _, rfl, b, _, rfl, .inl ⟨_, kS "open", .inl kb, rfl, (boxL_oa _ _ _ _ _ _ _ _ _ _).symm⟩, oa, _, rfl, .inl (SqL.of F0.ko), _, _, rfl, rfl, ?_, oa, _, (j : Int), j, .int seat, rfl, ?_, F0.ko, ?_, ?_, ?_, ?_, ?_⟩
  · rw [List.length_map]
    show (0 : Int) < (ob.length : Int)
    omega
  · show [V.int (pick % ((ob.map V.int).length : Int))] = _
    rw [List.length_map, ej]
  · omega
  · omega
  · rw [List.length_map]
    exact seq_ix jl
  · rw [List.getElem?_map, hseat]
    rfl
  rw [map_eraseG]
  have F1 := F0.open_ (ob' := ob.eraseIdx j)
  have bo : b ≠ oa := ne_of kb F0.ko (by intro z; cases z)
  have k1 := (upd_ne (o := .lst ((ob.eraseIdx j).map V.int)) bo).trans kb
  have ht1 := sqt_mut F0.ko lst_no (Chg.self (o := .lst ((ob.eraseIdx j).map V.int))) ht
  obtain ⟨G1, eG1⟩ : ∃ G1, G1 = upd H oa (.lst ((ob.eraseIdx j).map V.int)) := ⟨_, rfl⟩
  rw [← eG1] at F1 k1 ht1
  rw [← eG1]
  refine ⟨_, rfl, b, _, rfl, .inl ⟨_, kS "stamp", .inl k1, rfl, (boxL_sp _ _ _ _ _ _ _ _ _ _).symm⟩, t, _, _, _, rfl, rfl, ht1, atI_nat (j := 0) rfl, Nat.zero_le _, fun E1 hE1 => ?_⟩
  have sE := same_upd (o := .lst []) hE1
  have F2 := F1.same sE
  have k2 := sE _ _ k1
  have ht2 := sqt_same sE ht1
  obtain ⟨G2, eG2⟩ : ∃ G2, G2 = upd G1 E1 (.lst []) := ⟨_, rfl⟩
  have kE : G2 E1 = some (.lst []) := by rw [eG2]; exact upd_same
  rw [← eG2] at F2 k2 ht2
  rw [← eG2]
  refine ⟨_, rfl, b, _, rfl, .inl ⟨_, kS "state", .inl k2, rfl, (boxL_stt _ _ _ _ _ _ _ _ _ _).symm⟩, rfl, _, rfl, ?_⟩
  rw [dec_str]
  have osub2 : ∀ x ∈ ob.eraseIdx j, x ∈ hb ∧ x ≠ seat := fun x hx => ⟨pi.osub x (perm.mem_iff.mp (List.mem_cons_of_mem _ hx)), fun e => ndS (by rw [← e]; exact hx)⟩
  rcases hst with ⟨rfl, x0, hx0, nx0⟩ | ⟨rfl, all⟩
  · refine iteT' (decide_eq_true rfl) ?_
    refine ⟨_, rfl, b, _, rfl, .inl ⟨_, kS "hand", .inl k2, rfl, (boxL_ha _ _ _ _ _ _ _ _ _ _).symm⟩, ha, rfl, ⟨_, SqL.of F2.kh⟩, fun D hD => ?_⟩
    refine lc_list (K := K) (a := ha) (xs := hb.map V.int) (fun i G => Same G2 G ∧ G D = some (.lst (((hb.take i).filter fun y => !decide (y = seat)).map V.int))) ⟨same_upd hD, upd_same⟩ (fun i G _ h => SqL.of (h.1 _ _ F2.kh)) ?_ ?_
    · rintro i x G hx ⟨sG, kD⟩
      obtain ⟨k, hk, rfl⟩ : ∃ k : Int, hb[i]? = some k ∧ x = .int k := by
        rw [List.getElem?_map] at hx
        cases z : hb[i]? with
        | none => rw [z] at hx; cases hx
        | some k => rw [z] at hx; exact ⟨k, rfl, (Option.some.inj hx).symm⟩
      have li := (List.getElem?_eq_some_iff.mp hk).1
      refine ⟨rfl, _, rfl, _, rfl, rfl, _, rfl, ?_⟩
      rw [dec_ii]
      refine ite2 (fun c4 => ?_) (fun c4 => ?_)
      · refine ⟨_, rfl, _, kD, ?_, fun b o e => ?_, ?_⟩
        · rw [List.length_map]
          exact Nat.lt_of_lt_of_le (show _ < 2000 from Nat.lt_of_le_of_lt (List.length_filter_le ..) (by rw [List.length_take]; omega)) (by decide)
        · rw [upd_ne (ne_of_none e hD)]
          exact sG _ _ e
        · rw [List.take_add_one, hk, List.filter_append, Option.toList_some, List.filter_cons, if_pos c4, List.filter_nil, List.map_append]
          exact upd_same
      · refine ⟨sG, ?_⟩
        rw [List.take_add_one, hk, List.filter_append, Option.toList_some, List.filter_cons, if_neg c4, List.filter_nil, List.append_nil]
        exact kD
    rintro G ⟨sG, kD⟩
    rw [List.length_map, List.take_length] at kD
    have F3 := F2.newhand hD sG kD
    have k3 := sG _ _ k2
    refine ⟨_, rfl, b, _, rfl, .inl ⟨_, kS "hand", k3, rfl, box_len, rfl⟩, ?_⟩
    rw [boxL_put_ha]
    have F4 := F3.dict k3 (Chg.self (o := .dK (boxL me "asking" (.ref t) D oa la ta bg cnt se)))
    have ht4 := sqt_mut k3 dK_no (Chg.self (o := .dK (boxL me "asking" (.ref t) D oa la ta bg cnt se))) (sqt_same sG ht2)
    obtain ⟨G4, eG4⟩ : ∃ G4, G4 = upd G b (.dK (boxL me "asking" (.ref t) D oa la ta bg cnt se)) := ⟨_, rfl⟩
    have k4 : G4 b = some (.dK (boxL me "asking" (.ref t) D oa la ta bg cnt se)) := by rw [eG4]; exact upd_same
    rw [← eG4] at F4 ht4
    rw [← eG4]
    refine ⟨_, rfl, _, rfl, by show 3 ≤ sizeLine; decide, fun u hu => ?_⟩
    have s5 := same_upd (o := .tup [.str "given", .int own, .int 0]) hu
    refine ⟨by show 2 ≤ sizeLine; decide, fun u2 hu2 => ?_⟩
    have s6 := same_upd (o := .tup [.int seat, .ref u]) hu2
    refine ⟨by show 1 ≤ sizeLine; decide, fun E2 hE2 => ?_⟩
    have s7 := same_upd (o := .lst [.ref u2]) hE2
    have sA := s5.trans (s6.trans s7)
    have F5 := F4.same sA
    have k5 := sA _ _ k4
    have ht5 := sqt_same sA ht4
    obtain ⟨G5, eG5⟩ : ∃ G5, G5 = upd (upd (upd G4 u (.tup [.str "given", .int own, .int 0])) u2 (.tup [.int seat, .ref u])) E2 (.lst [.ref u2]) := ⟨_, rfl⟩
    have kE2 : G5 E2 = some (.lst [.ref u2]) := by rw [eG5]; exact upd_same
    have dz : DpAll K G5 [.ref u2] [sendD "given" own seat] := by
      rw [eG5]
      exact .cons (dp_send (SqT.of (s7 _ _ upd_same)) (SqT.of ((s6.trans s7) _ _ upd_same))) .nil
    rw [← eG5] at F5 k5 ht5
    rw [← eG5]
    obtain ⟨sv, hnd, knw, dsk, sett, tas, R⟩ := id F5.vo
    refine ⟨_, rfl, p, dx, _, rfl, R.hp, (voF_no _ _ _ _ _ _ _ _ _ _ _ (by decide +kernel) (by decide +kernel) (by decide +kernel) (by decide +kernel) (by decide +kernel) (by decide +kernel) (by decide +kernel) (by decide +kernel) (by decide +kernel) (by decide +kernel) (by decide +kernel)), ?_⟩
    refine ⟨_, rfl, _, rfl, by show 3 ≤ sizeLine; decide, fun u3 hu3 => ?_⟩
    have s9 := same_upd (o := .tup [.str "back", .int own, .int 0]) hu3
    refine ⟨p, dx, sa, u3, me, cnt, fst, own, seat, "asking", some own, hs, ss, S, rfl, F5.vo.same s9, lhs, by omega, .inr ⟨SqT.of upd_same, .inl ⟨rfl, rfl, (mem seat).mpr shb, fun l zs H9 hl cg V9 kl dz2 => ?_⟩⟩⟩
    have F9 := (F5.same s9).voter cg V9
    have bp : b ≠ p := ne_of k5 R.hp (by intro z; cases z)
    have ep : E2 ≠ p := ne_of kE2 R.hp (by intro z; cases z)
    have k9 := cg _ _ bp (s9 _ _ k5)
    refine ⟨_, rfl, V.ref l, V.ref E2, rfl, .inr ⟨l, E2, zs, _, [sendD "given" own seat], 2, rfl, rfl, kl, cg _ _ ep (s9 _ _ kE2), dz2, dps_mut (s9 _ _ R.hp) ins_no cg _ _ (noLs_send "given" own [seat]) (dps_same s9 _ _ dz), rfl, by show 1 < 10000; decide, fun d h => by rw [List.mem_singleton.mp h]; exact lv_send _ _ _⟩, ?_⟩
    refine q _ ⟨"asking", some own, cnt, D, oa, la, ta, hb.filter fun y => !decide (y = seat), ob.eraseIdx j, lt, tl, ⟨hs.filter fun y => !decide (y = seat), las, ?_, up.filter _, fun x => by rw [List.mem_filter, List.mem_filter, mem]⟩, ⟨.ref t, k9, dp_stp (sqt_mut (s9 _ _ R.hp) ins_no cg (sqt_same s9 ht5))⟩, ?_⟩
    · rw [if_neg n_ao]
      exact F9
    · refine ⟨pi.hnd.filter _, fun x h => pi.hsub x (List.mem_filter.mp h).1, ndE, fun x h => List.mem_filter.mpr ⟨(osub2 x h).1, by simp [(osub2 x h).2]⟩, pi.tlen, pi.llen, pi.late, .inr ⟨own, rfl, oc, .inl ⟨rfl, x0, hx0, fun h => nx0 (List.mem_filter.mp h).1⟩⟩⟩
  · refine iteF' (decide_eq_false n_ia) ?_
    obtain ⟨sv, hnd, knw, dsk, sett, tas, R⟩ := id F2.vo
    refine ⟨_, rfl, p, dx, _, rfl, R.hp, (voF_no _ _ _ _ _ _ _ _ _ _ _ (by decide +kernel) (by decide +kernel) (by decide +kernel) (by decide +kernel) (by decide +kernel) (by decide +kernel) (by decide +kernel) (by decide +kernel) (by decide +kernel) (by decide +kernel) (by decide +kernel)), ?_⟩
    refine ⟨_, rfl, _, rfl, by show 3 ≤ sizeLine; decide, fun u3 hu3 => ?_⟩
    have s9 := same_upd (o := .tup [.str "back", .int own, .int 0]) hu3
    refine ⟨p, dx, sa, u3, me, cnt, fst, own, seat, "in", some own, hs, ss, S, rfl, F2.vo.same s9, lhs, by omega, .inr ⟨SqT.of upd_same, .inr ⟨fun h => absurd h.1 n_ia, fun l H9 hl s10 kl => ?_⟩⟩⟩
    have sB := s9.trans s10
    refine ⟨_, rfl, V.ref l, V.ref E1, rfl, .inr ⟨l, E1, [], [], [], 2, rfl, rfl, kl, sB _ _ kE, .nil, .nil, rfl, by show 0 < 10000; decide, fun d h => by simp at h⟩, ?_⟩
    refine q _ ⟨"in", some own, cnt, ha, oa, la, ta, hb, ob.eraseIdx j, lt, tl, ⟨hs, las, ?_, up, mem⟩, ⟨.ref t, sB _ _ k2, dp_stp (sqt_same sB ht2)⟩, ?_⟩
    · rw [if_neg n_io]
      exact F2.same sB
    · exact ⟨pi.hnd, pi.hsub, ndE, fun x h => (osub2 x h).1, pi.tlen, pi.llen, pi.late, .inr ⟨own, rfl, oc, .inr ⟨rfl, all⟩⟩⟩
end

end G0
namespace G0
open PySem PySem.Spec PyProof.Rows L2 NdefX ClX
section
variable {P : Program} {w : World} {K : PySem.W.Frag} {mg : Str → Option Value} {base : Heap} {C CB : Addr}
theorem eqv_nil (S : List (List Int)) : PyData.eqv (.list (setsD S)) (.list []) = decide (S = []) := by
  cases S with
  | nil => simp [setsD, PyData.eqv, PyData.eqvAll]
  | cons a S => simp [setsD, PyData.eqv, PyData.eqvAll]
theorem eqv_nilI (S : List Int) : PyData.eqv (.list (S.map PyData.int)) (.list []) = decide (S = []) := by
  cases S with
  | nil => simp [PyData.eqv, PyData.eqvAll]
  | cons a S => simp [PyData.eqv, PyData.eqvAll]
/-! ### a deed -/
def spDeedV (K : PySem.W.Frag) (C : Addr) : Sp := fun vs H Q _ => ∃ (L b p dx sa se : Addr) (cs ss : List Int) (me fst kind pick more : Int) (S : List (List Int)) (bg : V), vs = [.ref p, .ref b, .int kind, .int pick, .int more] ∧ Cst S ss me fst bg ∧
  WdX K C L b p dx sa se cs me fst S ss bg H ∧ ∀ H', WdX K C L b p dx sa se cs me fst S ss bg H' → Q (.bl true) H'
theorem sc_law_deed : FnScope ["voter", "box", "kind", "pick", "more", "state", "seat", "elder"] ["voter", "box", "kind", "pick", "more"] (defScope s_law_deed) :=
  ⟨rfl, rfl, rfl, by decide +kernel, rfl, by decide +kernel, by decide +kernel⟩
theorem ok_deedV (F : Fn K mg "_law_deed" s_law_deed) (T : BlV mg) (VT : VoT K C) (MH : Me P w K mg base CX0 C "hear" 2 ["self", "sender", "letter"] (spHearV K C)) (C_same : Cal P w K mg base "_law_same" 4 ["found", "due"] (spSameD K 3))
    (C_asks : Cal P w K mg base "_law_asks" 5 ["voter", "box"] (spAsksV K C)) (C_asked_back : Cal P w K mg base "_law_asked_back" 5 ["voter", "box", "pick"] (spABV K C)) (C_leaves : Cal P w K mg base "_law_leaves" 5 ["voter", "box"] (spLeavesV K C)) (C_votes : Cal P w K mg base "_law_votes" 5 ["voter", "box", "pick", "more"] (spVotesV K C)) :
    Cal P w K mg base "_law_deed" 6 ["voter", "box", "kind", "pick", "more"] (spDeedV K C) := by
  obtain ⟨fA, fdA, GA, bA, mA⟩ := MH
  refine cal_of F sc_law_deed
    (fun _ _ _ _ _ _ us hl => match us, hl with | [_, _, _, _, _], _ => rfl) ?_ ?_
  · rintro vs H Q E ⟨L, b, p, _, _, _, _, _, _, _, _, _, _, _, _, rfl, _⟩
    rfl
  rintro f cdv A outer s H vs Q E free hr ⟨L, b, p, dx, sa, se, cs, ss, me, fst, kind, pick, more, S, bg, rfl, cst, ⟨stt, stp, cnt, ha, oa, la, ta, hb, ob, lt, tl, W⟩, q⟩
  obtain ⟨⟨hs, las, F0, up, mem⟩, ⟨sp, kb, dsp⟩, pi⟩ := id W
  obtain ⟨sne, snd, slen, slow⟩ := cst.ss
  have lhb : hb.length ≤ 8 := by
    have h1 := fit_len _ _ pi.hnd pi.hsub
    omega
  have lhs : hs.length < 50 := by
    have h1 := fit_len hs hb (up.imp fun h => by omega) fun x hx => (mem x).mp hx
    omega
  have hr2 : Room 2 _ := hr.mono (by decide)
  have same : ∀ {H' : Hp}, Same H H' → Wd K C L b p dx sa se cs me fst S ss bg H' stt stp cnt ha oa la ta hb ob lt tl := fun s => ⟨⟨hs, las, F0.same s, up, mem⟩, ⟨sp, s _ _ kb, dp_same s _ _ dsp⟩, pi⟩
  refine ⟨_, (pss_cons (ps_set (i := 5) sc_law_deed.nd rfl (Or.inl rfl) (pe_dget (hu_of hr) (pv 1) pe_str (fun _ _ => rfl)))
    (pss_cons (ps_if (PW.pt (pw_and (pt_cmpR (op_neD (u64 hr)) (pe_dget (hu_of hr) (pv 1) pe_str (fun _ _ => rfl)) (pe_lst pa_nil) (nomark _)) (pw_and1 (PW.pt (pw_or (pt_cmpR op_lt (pv 2) pe_int (nomark _)) (pw_or1 (PW.pt (pw_and (pt_cmpR op_eq (pv 2) pe_int (nomark _)) (pw_and1 (pt_cmpR op_eq (pv 5) pe_str (nomark _)))))))))))
    (pss_cons (ps_asg (pe_bm PySem.F.plainAttrs_list PySem.F.slot_list_pop PySem.F.type_list_pop mt_popAt (pe_dget (hu_of hr) (pv 1) pe_str (fun _ _ => rfl)) (pa_cons (pe_op op_mod (pv 3) (pe_callB call_len_seq (by rfl) T.len (by decide +kernel) (pa_cons (pe_dget (hu_of hr) (pv 1) pe_str (fun _ _ => rfl)) pa_nil))) pa_nil)) (pg_tup (by rfl) (pgs_cons (pg_name (i := 6) sc_law_deed.nd rfl (Or.inl rfl)) (pgs_cons (pg_name (i := 7) sc_law_deed.nd rfl (Or.inl rfl)) pgs_nil))))
    (pss_one (ps_ret (pe_cal C_same free (hr.mono (by decide)) (pa_cons (pe_meth (pv 0) VT.cl mA GA hr2 bA .nil pass0 (pa_cons (pv 6) (pa_cons (pe_tup (pa_cons pe_str (pa_cons (pv 7) (pa_cons pe_int pa_nil)))) pa_nil))) (pa_cons (pe_lst pa_nil) pa_nil))))))
    pss_nil)
    (pss_cons (ps_if (pt_cmpR op_eq (pv 5) pe_str (nomark _))
    (pss_one (ps_ret (pe_cal C_asks free (hr.mono (by decide)) (pa_cons (pv 0) (pa_cons (pv 1) pa_nil)))))
    pss_nil)
    (pss_cons (ps_if (PW.pt (pw_and (pt_cmpR op_lt (pv 2) pe_int (nomark _)) (pw_and1 (pt_cmpR (op_neD (u64 hr)) (pe_dget (hu_of hr) (pv 1) pe_str (fun _ _ => rfl)) (pe_lst pa_nil) (nomark _)))))
    (pss_one (ps_ret (pe_cal C_asked_back free (hr.mono (by decide)) (pa_cons (pv 0) (pa_cons (pv 1) (pa_cons (pv 3) pa_nil))))))
    pss_nil)
    (pss_cons (ps_if (pt_cmpR op_eq (pv 5) pe_str (nomark _))
    (pss_one (ps_ret (pe_cal C_leaves free (hr.mono (by decide)) (pa_cons (pv 0) (pa_cons (pv 1) pa_nil)))))
    pss_nil)
    (pss_one (ps_ret (pe_cal C_votes free (hr.mono (by decide)) (pa_cons (pv 0) (pa_cons (pv 1) (pa_cons (pv 3) (pa_cons (pe_op op_mul (pv 4) (pe_op op_mod (pv 2) pe_int)) pa_nil)))))))))))), ?_⟩
  refine ⟨_, rfl, b, _, rfl, .inl ⟨_, kS "state", .inl kb, rfl, (boxL_stt _ _ _ _ _ _ _ _ _ _).symm⟩, ?_⟩
  refine ⟨_, rfl, b, _, rfl, .inl ⟨_, kS "late", .inl kb, rfl, (boxL_la _ _ _ _ _ _ _ _ _ _).symm⟩, Nat.zero_le _, fun E1 hE1 => ?_⟩
  have sE := same_upd (o := .lst []) hE1
  refine ⟨.list (setsD lt), .list [], .lst (SqL.of (sE _ _ F0.kl)) (tups_data (tups_same sE F0.tp)), .lst (SqL.of upd_same) .nil, shaped_sets _, by decide, _, rfl, ?_⟩
  rw [eqv_nil]
  have W1 := same sE
  have k1 := sE _ _ kb
  have F1 := F0.same sE
  obtain ⟨G1, eG1⟩ : ∃ G1, G1 = upd H E1 (.lst []) := ⟨_, rfl⟩
  rw [← eG1] at W1 k1 F1
  rw [← eG1]
  by_cases cL : lt = []
  · refine iteF' (by rw [decide_eq_true cL]; rfl) ?_
    refine ⟨_, rfl, rfl, _, rfl, ?_⟩
    rw [dec_str]
    rcases pi.st with ⟨rfl, rfl, rfl, rfl⟩ | ⟨own, rfl, oc, hst⟩
    · refine iteT' (decide_eq_true rfl) ?_
      exact ⟨_, rfl, _, rfl, L, b, p, dx, sa, se, ha, oa, la, ta, cs, ss, me, fst, cnt, S, bg, none, [], [], tl, lt, rfl, cst, W1, q⟩
    · have hno : stt ≠ "out" := by
        rcases hst with ⟨e, _⟩ | ⟨e, _⟩
        · rw [e]; exact n_ao
        · rw [e]; exact n_io
      refine iteF' (decide_eq_false hno) ?_
      refine ⟨_, rfl, _, _, rfl, rfl, _, rfl, ?_⟩
      have go : ∀ (H' : Hp), Same G1 H' → Wd K C L b p dx sa se cs me fst S ss bg H' stt (some own) cnt ha oa la ta hb ob lt tl := fun H' s9 => by
        refine same ?_
        have := sE.trans (show Same (upd H E1 (.lst [])) H' by rw [← eG1]; exact s9)
        exact this
      refine ite2 (fun cA => ?_) (fun cA => ?_)
      · refine ⟨_, rfl, b, _, rfl, .inl ⟨_, kS "open", .inl k1, rfl, (boxL_oa _ _ _ _ _ _ _ _ _ _).symm⟩, Nat.zero_le _, fun E2 hE2 => ?_⟩
        have sE2 := same_upd (o := .lst []) hE2
        refine ⟨.list (ob.map PyData.int), .list [], dp_ints (sE2 _ _ F1.ko), .lst (SqL.of upd_same) .nil, shaped_ints _, by decide, _, rfl, ?_⟩
        rw [eqv_nilI]
        by_cases cB : ob = []
        · refine iteF' (by rw [decide_eq_true cB]; rfl) ?_
          refine ⟨_, rfl, rfl, _, rfl, ?_⟩
          rw [dec_str]
          rcases hst with ⟨rfl, h9⟩ | ⟨rfl, h9⟩
          · refine iteF' (decide_eq_false n_ai) ?_
            exact ⟨_, rfl, _, rfl, _, rfl, _, rfl, _, rfl, _, _, rfl, rfl, (by show (0 : Int) < 2; decide), _, _, rfl, rfl, .inr ⟨by omega, by omega⟩, L, b, p, dx, sa, se, ha, oa, la, ta, cs, ss, me, fst, cnt, pick, more * (kind % 2), S, bg, some own, hb, ob, tl, lt, rfl, cst, go _ sE2, q⟩
          · refine iteT' (decide_eq_true rfl) ?_
            exact ⟨_, rfl, _, rfl, L, b, p, dx, sa, se, ha, oa, la, ta, cs, ss, me, fst, cnt, S, bg, some own, hb, ob, tl, lt, rfl, cst, go _ sE2, q⟩
        · refine iteT' (by rw [decide_eq_false cB]; rfl) ?_
          exact ⟨_, rfl, _, rfl, _, rfl, L, b, p, dx, sa, se, ha, oa, la, ta, cs, ss, me, fst, cnt, pick, S, bg, stt, some own, hb, ob, tl, lt, rfl, cst, cB, go _ sE2, q⟩
      · refine ⟨_, rfl, rfl, _, rfl, ?_⟩
        rw [dec_str]
        rcases hst with ⟨rfl, h9⟩ | ⟨rfl, h9⟩
        · refine iteF' (decide_eq_false n_ai) ?_
          exact ⟨_, rfl, _, rfl, _, rfl, _, rfl, _, rfl, _, _, rfl, rfl, (by show (0 : Int) < 2; decide), _, _, rfl, rfl, .inr ⟨by omega, by omega⟩, L, b, p, dx, sa, se, ha, oa, la, ta, cs, ss, me, fst, cnt, pick, more * (kind % 2), S, bg, some own, hb, ob, tl, lt, rfl, cst, go _ (Same.refl _), q⟩
        · refine iteT' (decide_eq_true rfl) ?_
          exact ⟨_, rfl, _, rfl, L, b, p, dx, sa, se, ha, oa, la, ta, cs, ss, me, fst, cnt, S, bg, some own, hb, ob, tl, lt, rfl, cst, go _ (Same.refl _), q⟩
  · refine iteT' (by rw [decide_eq_false cL]; rfl) ?_
    refine ⟨_, rfl, _, _, rfl, rfl, _, rfl, ?_⟩
    refine ite2 (fun cX => ?_) (fun cX => ?_)
    · skip
      have lpos : 0 < lt.length := List.length_pos_iff.mpr cL
      have m0 := Int.emod_nonneg pick (show (lt.length : Int) ≠ 0 by omega)
      have m1 := Int.emod_lt_of_pos pick (show 0 < (lt.length : Int) by omega)
      obtain ⟨j, ej⟩ : ∃ j : Nat, pick % (lt.length : Int) = (j : Int) := ⟨(pick % (lt.length : Int)).toNat, by omega⟩
      have jl : j < lt.length := by omega
      have jl2 : j < las.length := by rw [F1.tp.1]; exact jl
      have l8 := pi.llen
      have e1 : las[j]? = some las[j] := List.getElem?_eq_getElem jl2
      have e2 : lt[j]? = some lt[j] := List.getElem?_eq_getElem jl
      have hq := F1.tp.2 j _ _ e1 e2
      obtain ⟨s1, c1, el, hc1, hc2⟩ := pi.late _ (List.mem_of_getElem? e2)
      rw [el] at hq
      have lll : (las.map V.ref).length = lt.length := by rw [List.length_map]; exact F1.tp.1
      refine ⟨_, rfl, b, _, rfl, .inl ⟨_, kS "late", .inl k1, rfl, (boxL_la _ _ _ _ _ _ _ _ _ _).symm⟩, .inl ⟨rfl, _, SqL.of F1.kl⟩, _, rfl, _, rfl, b, _, rfl, .inl ⟨_, kS "late", .inl k1, rfl, (boxL_la _ _ _ _ _ _ _ _ _ _).symm⟩, la, _, rfl, .inl (SqL.of F1.kl), _, _, rfl, rfl, ?_, la, _, (j : Int), j, .ref las[j], rfl, ?_, F1.kl, ?_, ?_, ?_, ?_, ?_⟩
      · rw [lll]
        show (0 : Int) < (lt.length : Int)
        omega
      · show [V.int (pick % ((las.map V.ref).length : Int))] = _
        rw [lll, ej]
      · omega
      · omega
      · rw [lll]
        exact seq_ix jl
      · rw [List.getElem?_map, e1]
        rfl
      rw [map_eraseG]
      have F2 := F1.late (tups_erase F1.tp j)
      have bl : b ≠ la := ne_of k1 F1.kl (by intro z; cases z)
      have k2 := (upd_ne (o := .lst ((las.eraseIdx j).map V.ref)) bl).trans k1
      have hq2 := sqt_mut F1.kl lst_no (Chg.self (o := .lst ((las.eraseIdx j).map V.ref))) hq
      have dsp2 := stp_mut F1.kl lst_no (Chg.self (o := .lst ((las.eraseIdx j).map V.ref))) (show Dp K G1 sp (stpD me stp) by rw [eG1]; exact dp_same sE _ _ dsp)
      obtain ⟨G2, eG2⟩ : ∃ G2, G2 = upd G1 la (.lst ((las.eraseIdx j).map V.ref)) := ⟨_, rfl⟩
      rw [← eG2] at F2 k2 hq2 dsp2
      rw [← eG2]
      refine ⟨las[j], _, rfl, hq2, rfl, _, _, rfl, _, _, rfl, rfl, ?_⟩
      obtain ⟨sv, hnd, knw, dsk, sett, tas, R⟩ := id F2.vo
      refine ⟨_, rfl, p, dx, _, rfl, R.hp, (voF_no _ _ _ _ _ _ _ _ _ _ _ (by decide +kernel) (by decide +kernel) (by decide +kernel) (by decide +kernel) (by decide +kernel) (by decide +kernel) (by decide +kernel) (by decide +kernel) (by decide +kernel) (by decide +kernel) (by decide +kernel)), ?_⟩
      refine ⟨_, rfl, _, rfl, by show 3 ≤ sizeLine; decide, fun u3 hu3 => ?_⟩
      have s9 := same_upd (o := .tup [.str "back", .int c1, .int 0]) hu3
      refine ⟨p, dx, sa, u3, me, cnt, fst, c1, s1, stt, stp, hs, _, S, rfl, F2.vo.same s9, lhs, by split <;> first | exact Nat.zero_le _ | omega, .inr ⟨SqT.of upd_same, .inr ⟨fun h => by have := hc2 c1 h.2.1; omega, fun l H9 hl s10 kl => ?_⟩⟩⟩
      refine ⟨Nat.zero_le _, fun E5 hE5 => ?_⟩
      have s11 := same_upd (o := .lst []) hE5
      have sB := s9.trans (s10.trans s11)
      refine ⟨V.ref l, V.ref E5, rfl, .inr ⟨l, E5, [], [], [], 2, rfl, rfl, s11 _ _ kl, upd_same, .nil, .nil, rfl, by show 0 < 10000; decide, fun d h => by simp at h⟩, ?_⟩
      refine q _ ⟨stt, stp, cnt, ha, oa, la, ta, hb, ob, lt.eraseIdx j, tl, ⟨hs, _, F2.same sB, up, mem⟩, ⟨sp, sB _ _ k2, dp_same sB _ _ dsp2⟩, ?_⟩
      refine ⟨pi.hnd, pi.hsub, pi.ond, pi.osub, pi.tlen, by rw [List.length_eraseIdx]; split <;> omega, fun e he => pi.late e (List.mem_of_mem_eraseIdx he), pi.st⟩
    · refine ⟨_, rfl, rfl, _, rfl, ?_⟩
      refine ite2 (fun cY => ?_) (fun cY => ?_)
      · refine ⟨_, rfl, rfl, _, rfl, ?_⟩
        refine ite2 (fun cZ => ?_) (fun cZ => ?_)
        · skip
          have lpos : 0 < lt.length := List.length_pos_iff.mpr cL
          have m0 := Int.emod_nonneg pick (show (lt.length : Int) ≠ 0 by omega)
          have m1 := Int.emod_lt_of_pos pick (show 0 < (lt.length : Int) by omega)
          obtain ⟨j, ej⟩ : ∃ j : Nat, pick % (lt.length : Int) = (j : Int) := ⟨(pick % (lt.length : Int)).toNat, by omega⟩
          have jl : j < lt.length := by omega
          have jl2 : j < las.length := by rw [F1.tp.1]; exact jl
          have l8 := pi.llen
          have e1 : las[j]? = some las[j] := List.getElem?_eq_getElem jl2
          have e2 : lt[j]? = some lt[j] := List.getElem?_eq_getElem jl
          have hq := F1.tp.2 j _ _ e1 e2
          obtain ⟨s1, c1, el, hc1, hc2⟩ := pi.late _ (List.mem_of_getElem? e2)
          rw [el] at hq
          have lll : (las.map V.ref).length = lt.length := by rw [List.length_map]; exact F1.tp.1
          refine ⟨_, rfl, b, _, rfl, .inl ⟨_, kS "late", .inl k1, rfl, (boxL_la _ _ _ _ _ _ _ _ _ _).symm⟩, .inl ⟨rfl, _, SqL.of F1.kl⟩, _, rfl, _, rfl, b, _, rfl, .inl ⟨_, kS "late", .inl k1, rfl, (boxL_la _ _ _ _ _ _ _ _ _ _).symm⟩, la, _, rfl, .inl (SqL.of F1.kl), _, _, rfl, rfl, ?_, la, _, (j : Int), j, .ref las[j], rfl, ?_, F1.kl, ?_, ?_, ?_, ?_, ?_⟩
          · rw [lll]
            show (0 : Int) < (lt.length : Int)
            omega
          · show [V.int (pick % ((las.map V.ref).length : Int))] = _
            rw [lll, ej]
          · omega
          · omega
          · rw [lll]
            exact seq_ix jl
          · rw [List.getElem?_map, e1]
            rfl
          rw [map_eraseG]
          have F2 := F1.late (tups_erase F1.tp j)
          have bl : b ≠ la := ne_of k1 F1.kl (by intro z; cases z)
          have k2 := (upd_ne (o := .lst ((las.eraseIdx j).map V.ref)) bl).trans k1
          have hq2 := sqt_mut F1.kl lst_no (Chg.self (o := .lst ((las.eraseIdx j).map V.ref))) hq
          have dsp2 := stp_mut F1.kl lst_no (Chg.self (o := .lst ((las.eraseIdx j).map V.ref))) (show Dp K G1 sp (stpD me stp) by rw [eG1]; exact dp_same sE _ _ dsp)
          obtain ⟨G2, eG2⟩ : ∃ G2, G2 = upd G1 la (.lst ((las.eraseIdx j).map V.ref)) := ⟨_, rfl⟩
          rw [← eG2] at F2 k2 hq2 dsp2
          rw [← eG2]
          refine ⟨las[j], _, rfl, hq2, rfl, _, _, rfl, _, _, rfl, rfl, ?_⟩
          obtain ⟨sv, hnd, knw, dsk, sett, tas, R⟩ := id F2.vo
          refine ⟨_, rfl, p, dx, _, rfl, R.hp, (voF_no _ _ _ _ _ _ _ _ _ _ _ (by decide +kernel) (by decide +kernel) (by decide +kernel) (by decide +kernel) (by decide +kernel) (by decide +kernel) (by decide +kernel) (by decide +kernel) (by decide +kernel) (by decide +kernel) (by decide +kernel)), ?_⟩
          refine ⟨_, rfl, _, rfl, by show 3 ≤ sizeLine; decide, fun u3 hu3 => ?_⟩
          have s9 := same_upd (o := .tup [.str "back", .int c1, .int 0]) hu3
          refine ⟨p, dx, sa, u3, me, cnt, fst, c1, s1, stt, stp, hs, _, S, rfl, F2.vo.same s9, lhs, by split <;> first | exact Nat.zero_le _ | omega, .inr ⟨SqT.of upd_same, .inr ⟨fun h => by have := hc2 c1 h.2.1; omega, fun l H9 hl s10 kl => ?_⟩⟩⟩
          refine ⟨Nat.zero_le _, fun E5 hE5 => ?_⟩
          have s11 := same_upd (o := .lst []) hE5
          have sB := s9.trans (s10.trans s11)
          refine ⟨V.ref l, V.ref E5, rfl, .inr ⟨l, E5, [], [], [], 2, rfl, rfl, s11 _ _ kl, upd_same, .nil, .nil, rfl, by show 0 < 10000; decide, fun d h => by simp at h⟩, ?_⟩
          refine q _ ⟨stt, stp, cnt, ha, oa, la, ta, hb, ob, lt.eraseIdx j, tl, ⟨hs, _, F2.same sB, up, mem⟩, ⟨sp, sB _ _ k2, dp_same sB _ _ dsp2⟩, ?_⟩
          refine ⟨pi.hnd, pi.hsub, pi.ond, pi.osub, pi.tlen, by rw [List.length_eraseIdx]; split <;> omega, fun e he => pi.late e (List.mem_of_mem_eraseIdx he), pi.st⟩
        · skip
          refine ⟨_, rfl, rfl, _, rfl, ?_⟩
          rw [dec_str]
          rcases pi.st with ⟨rfl, rfl, rfl, rfl⟩ | ⟨own, rfl, oc, hst⟩
          · refine iteT' (decide_eq_true rfl) ?_
            exact ⟨_, rfl, _, rfl, L, b, p, dx, sa, se, ha, oa, la, ta, cs, ss, me, fst, cnt, S, bg, none, [], [], tl, lt, rfl, cst, W1, q⟩
          · have hno : stt ≠ "out" := by
              rcases hst with ⟨e, _⟩ | ⟨e, _⟩
              · rw [e]; exact n_ao
              · rw [e]; exact n_io
            refine iteF' (decide_eq_false hno) ?_
            refine ⟨_, rfl, _, _, rfl, rfl, _, rfl, ?_⟩
            have go : ∀ (H' : Hp), Same G1 H' → Wd K C L b p dx sa se cs me fst S ss bg H' stt (some own) cnt ha oa la ta hb ob lt tl := fun H' s9 => by
              refine same ?_
              have := sE.trans (show Same (upd H E1 (.lst [])) H' by rw [← eG1]; exact s9)
              exact this
            refine ite2 (fun cA => ?_) (fun cA => ?_)
            · refine ⟨_, rfl, b, _, rfl, .inl ⟨_, kS "open", .inl k1, rfl, (boxL_oa _ _ _ _ _ _ _ _ _ _).symm⟩, Nat.zero_le _, fun E2 hE2 => ?_⟩
              have sE2 := same_upd (o := .lst []) hE2
              refine ⟨.list (ob.map PyData.int), .list [], dp_ints (sE2 _ _ F1.ko), .lst (SqL.of upd_same) .nil, shaped_ints _, by decide, _, rfl, ?_⟩
              rw [eqv_nilI]
              by_cases cB : ob = []
              · refine iteF' (by rw [decide_eq_true cB]; rfl) ?_
                refine ⟨_, rfl, rfl, _, rfl, ?_⟩
                rw [dec_str]
                rcases hst with ⟨rfl, h9⟩ | ⟨rfl, h9⟩
                · refine iteF' (decide_eq_false n_ai) ?_
                  exact ⟨_, rfl, _, rfl, _, rfl, _, rfl, _, rfl, _, _, rfl, rfl, (by show (0 : Int) < 2; decide), _, _, rfl, rfl, .inr ⟨by omega, by omega⟩, L, b, p, dx, sa, se, ha, oa, la, ta, cs, ss, me, fst, cnt, pick, more * (kind % 2), S, bg, some own, hb, ob, tl, lt, rfl, cst, go _ sE2, q⟩
                · refine iteT' (decide_eq_true rfl) ?_
                  exact ⟨_, rfl, _, rfl, L, b, p, dx, sa, se, ha, oa, la, ta, cs, ss, me, fst, cnt, S, bg, some own, hb, ob, tl, lt, rfl, cst, go _ sE2, q⟩
              · refine iteT' (by rw [decide_eq_false cB]; rfl) ?_
                exact ⟨_, rfl, _, rfl, _, rfl, L, b, p, dx, sa, se, ha, oa, la, ta, cs, ss, me, fst, cnt, pick, S, bg, stt, some own, hb, ob, tl, lt, rfl, cst, cB, go _ sE2, q⟩
            · refine ⟨_, rfl, rfl, _, rfl, ?_⟩
              rw [dec_str]
              rcases hst with ⟨rfl, h9⟩ | ⟨rfl, h9⟩
              · refine iteF' (decide_eq_false n_ai) ?_
                exact ⟨_, rfl, _, rfl, _, rfl, _, rfl, _, rfl, _, _, rfl, rfl, (by show (0 : Int) < 2; decide), _, _, rfl, rfl, .inr ⟨by omega, by omega⟩, L, b, p, dx, sa, se, ha, oa, la, ta, cs, ss, me, fst, cnt, pick, more * (kind % 2), S, bg, some own, hb, ob, tl, lt, rfl, cst, go _ (Same.refl _), q⟩
              · refine iteT' (decide_eq_true rfl) ?_
                exact ⟨_, rfl, _, rfl, L, b, p, dx, sa, se, ha, oa, la, ta, cs, ss, me, fst, cnt, S, bg, some own, hb, ob, tl, lt, rfl, cst, go _ (Same.refl _), q⟩
      · skip
        refine ⟨_, rfl, rfl, _, rfl, ?_⟩
        rw [dec_str]
        rcases pi.st with ⟨rfl, rfl, rfl, rfl⟩ | ⟨own, rfl, oc, hst⟩
        · refine iteT' (decide_eq_true rfl) ?_
          exact ⟨_, rfl, _, rfl, L, b, p, dx, sa, se, ha, oa, la, ta, cs, ss, me, fst, cnt, S, bg, none, [], [], tl, lt, rfl, cst, W1, q⟩
        · have hno : stt ≠ "out" := by
            rcases hst with ⟨e, _⟩ | ⟨e, _⟩
            · rw [e]; exact n_ao
            · rw [e]; exact n_io
          refine iteF' (decide_eq_false hno) ?_
          refine ⟨_, rfl, _, _, rfl, rfl, _, rfl, ?_⟩
          have go : ∀ (H' : Hp), Same G1 H' → Wd K C L b p dx sa se cs me fst S ss bg H' stt (some own) cnt ha oa la ta hb ob lt tl := fun H' s9 => by
            refine same ?_
            have := sE.trans (show Same (upd H E1 (.lst [])) H' by rw [← eG1]; exact s9)
            exact this
          refine ite2 (fun cA => ?_) (fun cA => ?_)
          · refine ⟨_, rfl, b, _, rfl, .inl ⟨_, kS "open", .inl k1, rfl, (boxL_oa _ _ _ _ _ _ _ _ _ _).symm⟩, Nat.zero_le _, fun E2 hE2 => ?_⟩
            have sE2 := same_upd (o := .lst []) hE2
            refine ⟨.list (ob.map PyData.int), .list [], dp_ints (sE2 _ _ F1.ko), .lst (SqL.of upd_same) .nil, shaped_ints _, by decide, _, rfl, ?_⟩
            rw [eqv_nilI]
            by_cases cB : ob = []
            · refine iteF' (by rw [decide_eq_true cB]; rfl) ?_
              refine ⟨_, rfl, rfl, _, rfl, ?_⟩
              rw [dec_str]
              rcases hst with ⟨rfl, h9⟩ | ⟨rfl, h9⟩
              · refine iteF' (decide_eq_false n_ai) ?_
                exact ⟨_, rfl, _, rfl, _, rfl, _, rfl, _, rfl, _, _, rfl, rfl, (by show (0 : Int) < 2; decide), _, _, rfl, rfl, .inr ⟨by omega, by omega⟩, L, b, p, dx, sa, se, ha, oa, la, ta, cs, ss, me, fst, cnt, pick, more * (kind % 2), S, bg, some own, hb, ob, tl, lt, rfl, cst, go _ sE2, q⟩
              · refine iteT' (decide_eq_true rfl) ?_
                exact ⟨_, rfl, _, rfl, L, b, p, dx, sa, se, ha, oa, la, ta, cs, ss, me, fst, cnt, S, bg, some own, hb, ob, tl, lt, rfl, cst, go _ sE2, q⟩
            · refine iteT' (by rw [decide_eq_false cB]; rfl) ?_
              exact ⟨_, rfl, _, rfl, _, rfl, L, b, p, dx, sa, se, ha, oa, la, ta, cs, ss, me, fst, cnt, pick, S, bg, stt, some own, hb, ob, tl, lt, rfl, cst, cB, go _ sE2, q⟩
          · refine ⟨_, rfl, rfl, _, rfl, ?_⟩
            rw [dec_str]
            rcases hst with ⟨rfl, h9⟩ | ⟨rfl, h9⟩
            · refine iteF' (decide_eq_false n_ai) ?_
              exact ⟨_, rfl, _, rfl, _, rfl, _, rfl, _, rfl, _, _, rfl, rfl, (by show (0 : Int) < 2; decide), _, _, rfl, rfl, .inr ⟨by omega, by omega⟩, L, b, p, dx, sa, se, ha, oa, la, ta, cs, ss, me, fst, cnt, pick, more * (kind % 2), S, bg, some own, hb, ob, tl, lt, rfl, cst, go _ (Same.refl _), q⟩
            · refine iteT' (decide_eq_true rfl) ?_
              exact ⟨_, rfl, _, rfl, L, b, p, dx, sa, se, ha, oa, la, ta, cs, ss, me, fst, cnt, S, bg, some own, hb, ob, tl, lt, rfl, cst, go _ (Same.refl _), q⟩
end

end G0
namespace G0
open PySem PySem.Spec PyProof.Rows L2 NdefX ClX
section
variable {P : Program} {w : World} {K : PySem.W.Frag} {mg : Str → Option Value} {base : Heap} {C CB : Addr}
/-! ### made -/
structure MkV (P : Program) (w : World) (K : PySem.W.Frag) (mg : Str → Option Value) (base : Heap) (C : Addr) : Prop where
  made : ∃ f fd ds e0, FnOk P w K mg base CX0 3 f fd ["self", "me", "sets", "first", "count"] (spVInit K C) ∧ Mk K C f ∧ Vals [.non, .int 0] ds ∧ Binds K fd ["self", "me", "sets", "first", "count"] ds ∧ RelV (.int 0) e0 ∧
    KBn K fd ["self", "me", "sets", "first", "count"] 3 ["first"] (fun us ws => us ++ ws ++ [e0]) (fun vs zs => vs ++ zs ++ [.int 0]) ∧
    KBn K fd ["self", "me", "sets", "first", "count"] 3 ["count"] (fun us ws => us ++ [.none] ++ ws) (fun vs zs => vs ++ [.non] ++ zs) ∧
    KBn K fd ["self", "me", "sets", "first", "count"] 3 ["count", "first"] (fun us ws => us ++ [ws.getD 1 .none, ws.getD 0 .none]) (fun vs zs => vs ++ [zs.getD 1 .non, zs.getD 0 .non])
  mg : mg "Voter" = some (.ref C)
def spMadeV (K : PySem.W.Frag) (C : Addr) : Sp := fun vs H Q _ => ∃ (sl : Addr) (me bg nu way : Int) (S : List (List Int)) (tas : List Addr), vs = [.int me, .ref sl, .int bg, .int nu, .int way] ∧ H sl = some (.lst (tas.map V.ref)) ∧ Tups K H tas S ∧
  ∀ p dx sa H', Same H H' → H sa = none → VoAt K H' C p dx sa me "out" (if way = 0 ∨ way = 1 then 0 else nu) none [] S (if way = 0 ∨ way = 2 then me else bg) [] → Q (.ref p) H'
theorem sc_law_made : FnScope ["me", "sets", "begin", "number", "way", "handed", "voter"] ["me", "sets", "begin", "number", "way"] (defScope s_law_made) :=
  ⟨rfl, rfl, rfl, by decide +kernel, rfl, by decide +kernel, by decide +kernel⟩
theorem ok_madeV (F : Fn K mg "_law_made" s_law_made) (T : BlV mg) (MC : MkV P w K mg base C) : Cal P w K mg base "_law_made" 5 ["me", "sets", "begin", "number", "way"] (spMadeV K C) := by
  obtain ⟨fC, fdC, ds, e0, GC, MI, rd, bC, _, k1, k2, k3⟩ := MC.made
  have gC := MC.mg
  refine cal_of F sc_law_made
    (fun _ _ _ _ _ _ us hl => match us, hl with | [_, _, _, _, _], _ => rfl) ?_ ?_
  · rintro vs H Q E ⟨sl, me, bg, nu, way, S, tas, rfl, _⟩
    rfl
  rintro f cdv A outer s H vs Q E free hr ⟨sl, me, bg, nu, way, S, tas, rfl, hsl, hT, q⟩
  have hr4 : Room 4 _ := hr
  refine ⟨_, (pss_cons (ps_set (i := 5) sc_law_made.nd rfl (Or.inl rfl) (pe_callTy call_list_of (by rfl) T.list (by decide +kernel) (pa_cons (pv 1) pa_nil)))
    (pss_cons (ps_if (pt_cmpR op_eq (pv 4) pe_int (nomark _))
    (pss_one (ps_set (i := 6) sc_law_made.nd rfl (Or.inl rfl) (pe_make MI GC hr4 (by rfl) gC bC rd pass0 (pa_cons (pv 0) (pa_cons (pv 5) pa_nil)))))
    (pss_one (ps_if (pt_cmpR op_eq (pv 4) pe_int (nomark _))
    (pss_one (ps_set (i := 6) sc_law_made.nd rfl (Or.inl rfl) (pe_makeK MI GC hr4 (by rfl) gC k1 pass0 (pa_cons (pv 0) (pa_cons (pv 5) pa_nil)) (pk_cons (pv 2) pk_nil))))
    (pss_one (ps_if (pt_cmpR op_eq (pv 4) pe_int (nomark _))
    (pss_one (ps_set (i := 6) sc_law_made.nd rfl (Or.inl rfl) (pe_makeK MI GC hr4 (by rfl) gC k2 pass0 (pa_cons (pv 0) (pa_cons (pv 5) pa_nil)) (pk_cons (pv 3) pk_nil))))
    (pss_one (ps_set (i := 6) sc_law_made.nd rfl (Or.inl rfl) (pe_makeK MI GC hr4 (by rfl) gC k3 pass0 (pa_cons (pv 0) (pa_cons (pv 5) pa_nil)) (pk_cons (pv 3) (pk_cons (pv 2) pk_nil))))))))))
    (pss_cons (ps_expr (pe_bm0 PySem.F.plainAttrs_list PySem.F.slot_list_clear PySem.F.type_list_clear mt_clear (pv 5)))
    (pss_one (ps_ret (pv 6)))))), ?_⟩
  refine ⟨_, rfl, sl, _, rfl, .inl (SqL.of hsl), fun h hh => ?_⟩
  have s1 := same_upd (o := .lst (tas.map V.ref)) hh
  obtain ⟨H1, e1⟩ : ∃ H1, H1 = upd H h (.lst (tas.map V.ref)) := ⟨_, rfl⟩
  have kh : H1 h = some (.lst (tas.map V.ref)) := by rw [e1]; exact upd_same
  rw [← e1] at s1
  rw [← e1]
  have hT1 := tups_same s1 hT
  refine ⟨_, rfl, rfl, _, rfl, ?_⟩
  rw [dec_ii]
  refine ite2 (fun c => ?_) (fun c => ?_)
  · have c' : way = 0 := of_decide_eq_true c
    refine ⟨_, rfl, _, rfl, fun y dy hy hdy ne => ?_⟩
    have sy : Same H1 (upd (upd H1 dy (.own y)) y (.ins C dy [])) := (same_upd hdy).trans (same_upd (by rw [upd_ne ne.symm]; exact hy))
    refine ⟨y, dy, h, me, 0, .non, none, S, tas, rfl, upd_same, sy _ _ kh, tups_same sy hT1, (.inl ⟨rfl, rfl⟩), fun sa H2 c2 hsa V2 => ⟨rfl, ?_⟩⟩
    have s2 : Same H1 H2 := fun b o e => c2 _ _ (ne_of_none e hy) (sy _ _ e)
    have kh2 := s2 _ _ kh
    have sah : sa ≠ h := fun z => by rw [z, sy _ _ kh] at hsa; cases hsa
    have V3 := V2.mut kh2 lst_no (fun _ _ _ z => nomatch z) sah (Chg.self (o := .lst []))
    refine ⟨_, rfl, .inl ⟨rfl, _, SqL.of kh2⟩, h, _, rfl, rfl, kh2, ?_⟩
    refine ⟨_, rfl, q y dy sa _ (fun b o e => (upd_ne (ne_of_none e hh)).trans (s2 _ _ (s1 _ _ e))) (s1.free (sy.free hsa)) ?_⟩
    (rw [if_pos (.inl c'), if_pos (.inl c')])
    exact V3
  have n0 : way ≠ 0 := fun z => c (decide_eq_true z)
  refine ⟨_, rfl, rfl, _, rfl, ?_⟩
  rw [dec_ii]
  refine ite2 (fun c => ?_) (fun c => ?_)
  · have c' : way = 1 := of_decide_eq_true c
    refine ⟨_, rfl, _, rfl, _, rfl, rfl, rfl, fun y dy hy hdy ne => ?_⟩
    have sy : Same H1 (upd (upd H1 dy (.own y)) y (.ins C dy [])) := (same_upd hdy).trans (same_upd (by rw [upd_ne ne.symm]; exact hy))
    refine ⟨y, dy, h, me, 0, (.int bg), (some bg), S, tas, rfl, upd_same, sy _ _ kh, tups_same sy hT1, (.inr ⟨bg, rfl, rfl⟩), fun sa H2 c2 hsa V2 => ⟨rfl, ?_⟩⟩
    have s2 : Same H1 H2 := fun b o e => c2 _ _ (ne_of_none e hy) (sy _ _ e)
    have kh2 := s2 _ _ kh
    have sah : sa ≠ h := fun z => by rw [z, sy _ _ kh] at hsa; cases hsa
    have V3 := V2.mut kh2 lst_no (fun _ _ _ z => nomatch z) sah (Chg.self (o := .lst []))
    refine ⟨_, rfl, .inl ⟨rfl, _, SqL.of kh2⟩, h, _, rfl, rfl, kh2, ?_⟩
    refine ⟨_, rfl, q y dy sa _ (fun b o e => (upd_ne (ne_of_none e hh)).trans (s2 _ _ (s1 _ _ e))) (s1.free (sy.free hsa)) ?_⟩
    (rw [if_pos (.inr c'), if_neg (by omega)])
    exact V3
  have n1 : way ≠ 1 := fun z => c (decide_eq_true z)
  refine ⟨_, rfl, rfl, _, rfl, ?_⟩
  rw [dec_ii]
  refine ite2 (fun c => ?_) (fun c => ?_)
  · have c' : way = 2 := of_decide_eq_true c
    refine ⟨_, rfl, _, rfl, _, rfl, rfl, rfl, fun y dy hy hdy ne => ?_⟩
    have sy : Same H1 (upd (upd H1 dy (.own y)) y (.ins C dy [])) := (same_upd hdy).trans (same_upd (by rw [upd_ne ne.symm]; exact hy))
    refine ⟨y, dy, h, me, nu, .non, none, S, tas, rfl, upd_same, sy _ _ kh, tups_same sy hT1, (.inl ⟨rfl, rfl⟩), fun sa H2 c2 hsa V2 => ⟨rfl, ?_⟩⟩
    have s2 : Same H1 H2 := fun b o e => c2 _ _ (ne_of_none e hy) (sy _ _ e)
    have kh2 := s2 _ _ kh
    have sah : sa ≠ h := fun z => by rw [z, sy _ _ kh] at hsa; cases hsa
    have V3 := V2.mut kh2 lst_no (fun _ _ _ z => nomatch z) sah (Chg.self (o := .lst []))
    refine ⟨_, rfl, .inl ⟨rfl, _, SqL.of kh2⟩, h, _, rfl, rfl, kh2, ?_⟩
    refine ⟨_, rfl, q y dy sa _ (fun b o e => (upd_ne (ne_of_none e hh)).trans (s2 _ _ (s1 _ _ e))) (s1.free (sy.free hsa)) ?_⟩
    (rw [if_neg (by omega), if_pos (.inr c')])
    exact V3
  have n2 : way ≠ 2 := fun z => c (decide_eq_true z)
  refine ⟨_, rfl, _, rfl, _, rfl, _, rfl, rfl, rfl, fun y dy hy hdy ne => ?_⟩
  have sy : Same H1 (upd (upd H1 dy (.own y)) y (.ins C dy [])) := (same_upd hdy).trans (same_upd (by rw [upd_ne ne.symm]; exact hy))
  refine ⟨y, dy, h, me, nu, (.int bg), (some bg), S, tas, rfl, upd_same, sy _ _ kh, tups_same sy hT1, (.inr ⟨bg, rfl, rfl⟩), fun sa H2 c2 hsa V2 => ⟨rfl, ?_⟩⟩
  have s2 : Same H1 H2 := fun b o e => c2 _ _ (ne_of_none e hy) (sy _ _ e)
  have kh2 := s2 _ _ kh
  have sah : sa ≠ h := fun z => by rw [z, sy _ _ kh] at hsa; cases hsa
  have V3 := V2.mut kh2 lst_no (fun _ _ _ z => nomatch z) sah (Chg.self (o := .lst []))
  refine ⟨_, rfl, .inl ⟨rfl, _, SqL.of kh2⟩, h, _, rfl, rfl, kh2, ?_⟩
  refine ⟨_, rfl, q y dy sa _ (fun b o e => (upd_ne (ne_of_none e hh)).trans (s2 _ _ (s1 _ _ e))) (s1.free (sy.free hsa)) ?_⟩
  (rw [if_neg (by omega), if_neg (by omega)])
  exact V3
end

end G0
namespace G0
open PySem PySem.Spec PyProof.Rows L2 NdefX ClX
section
variable {P : Program} {w : World} {K : PySem.W.Frag} {mg : Str → Option Value} {base : Heap} {C CB : Addr}
/-! ### the law -/
theorem looks_args {L b p dx sa se ha oa la ta : Addr} {cs ss : List Int} {me fst cnt : Int} {S : List (List Int)} {bg : V} {H : Hp} {stt : Str} {stp : Option Int} {hb ob tl : List Int} {lt : List (List Int)} (cst : Cst S ss me fst bg)
    (W : Wd K C L b p dx sa se cs me fst S ss bg H stt stp cnt ha oa la ta hb ob lt tl) : ∃ (hs vs : List Int) (kvs : List (Key × V)), VoAt K H C p dx sa me stt cnt stp hs S fst vs ∧ BoxL K H b ha kvs me stt stp hb cnt bg ∧ S.length ≤ 1000 ∧ (∀ one ∈ S, one.length ≤ 1000) ∧ hb.length < 50 ∧ hb.Nodup ∧
      hs.Pairwise (· < ·) ∧ (∀ x : Int, x ∈ hs ↔ x ∈ hb) ∧ ((S = [] ∧ bg = .non) ∨ (S ≠ [] ∧ bg = .int (fst % (S.length : Int)))) := by
  obtain ⟨⟨hs, las, F, up, mem⟩, ⟨sp, kb, dsp⟩, pi⟩ := W
  obtain ⟨sne, snd, slen, slow⟩ := cst.ss
  have lhb : hb.length ≤ 8 := by
    have h1 := fit_len _ _ pi.hnd pi.hsub
    omega
  exact ⟨hs, _, _, F.vo, ⟨kb, boxL_stt _ _ _ _ _ _ _ _ _ _, ⟨sp, boxL_sp _ _ _ _ _ _ _ _ _ _, dsp⟩, boxL_ha _ _ _ _ _ _ _ _ _ _, boxL_cn _ _ _ _ _ _ _ _ _ _, boxL_bg _ _ _ _ _ _ _ _ _ _, F.kh⟩,
    by have := cst.ok.1; omega, fun one h => by have := (cst.ok.2 one h).2.2.1; omega, by omega, pi.hnd, up, mem, .inr ⟨cst.ne, cst.bg⟩⟩
theorem Wd.same {L b p dx sa se ha oa la ta : Addr} {cs ss : List Int} {me fst cnt : Int} {S : List (List Int)} {bg : V} {H H' : Hp} {stt : Str} {stp : Option Int} {hb ob tl : List Int} {lt : List (List Int)} (W : Wd K C L b p dx sa se cs me fst S ss bg H stt stp cnt ha oa la ta hb ob lt tl) (s : Same H H') :
    Wd K C L b p dx sa se cs me fst S ss bg H' stt stp cnt ha oa la ta hb ob lt tl := by
  obtain ⟨⟨hs, las, F, up, mem⟩, ⟨sp, kb, dsp⟩, pi⟩ := W
  exact ⟨⟨hs, las, F.same s, up, mem⟩, ⟨sp, s _ _ kb, dp_same s _ _ dsp⟩, pi⟩
theorem sql_mut {H H' : Hp} {q : Addr} {o : HO} (hq : H q = some o) (no : (∀ xs, o ≠ .lst xs) ∧ ∀ u xs, o ≠ .frz u xs) (c : Chg q H H') {a : Addr} {xs : List V} (h : SqL K H a xs) : SqL K H' a xs := by
  rcases h with (z | ⟨o', z⟩) | z
  · exact .inl (.inl (c _ _ (fun e => by rw [e, hq] at z; exact no.1 _ (Option.some.inj z)) z))
  · exact .inl (.inr ⟨o', c _ _ (fun e => by rw [e, hq] at z; exact no.2 _ _ (Option.some.inj z)) z⟩)
  · exact .inr z
theorem four {ds : List Int} (h : ds.length = 4) : ∃ a b c d, ds = [a, b, c, d] := by
  match ds, h with
  | [a, b, c, d], _ => exact ⟨a, b, c, d, rfl⟩
theorem three {ds : List Int} (h : ds.length = 3) : ∃ a b c, ds = [a, b, c] := by
  match ds, h with
  | [a, b, c], _ => exact ⟨a, b, c, rfl⟩
def spLaw (K : PySem.W.Frag) : Sp := fun vs H Q _ => ∃ (a : Addr) (ns : List Int), vs = [.ref a] ∧ SqL K H a (ns.map V.int) ∧ ns.length ≤ 63 ∧ (∀ z ∈ ns, Builtin.Int.intBits z ≤ 1048576) ∧ ∀ H', Q (.bl true) H'
theorem sc_law : FnScope ["script", "me", "pick", "way", "number", "sets", "box", "voter", "begin", "cell", "kind", "more"] ["script"] (defScope s_law) :=
  ⟨rfl, rfl, rfl, by decide +kernel, rfl, by decide +kernel, by decide +kernel⟩
theorem ok_law (F : Fn K mg "law" s_law) (T : BlV mg) (VT : VoT K C) (MC : MkV P w K mg base C) (C_cell_at : Cal P w K mg base "_law_cell_at" 1 ["script", "k"] (spCell K)) (C_draws : Cal P w K mg base "_law_draws" 1 ["cell", "tops"] spDraws)
    (C_sets : Cal P w K mg base "_law_sets" 2 ["cell", "me"] (spSets K)) (C_refused : Cal P w K mg base "_law_refused" 5 ["voter", "me"] (spRefV K C)) (C_looks : Cal P w K mg base "_law_looks" 5 ["voter", "box"] (spLooksV K C))
    (C_made : Cal P w K mg base "_law_made" 5 ["me", "sets", "begin", "number", "way"] (spMadeV K C)) (C_cells : Cal P w K mg base "_law_cells" 1 ["script", "start"] (spCells K)) (C_deed : Cal P w K mg base "_law_deed" 6 ["voter", "box", "kind", "pick", "more"] (spDeedV K C)) :
    Cal P w K mg base "law" 7 ["script"] (spLaw K) := by
  obtain ⟨fC, fdC, ds0, e0, GC, MI, rd, bC, _, k1, k2, k3⟩ := MC.made
  have gC := MC.mg
  refine cal_of F sc_law
    (fun _ _ _ _ _ _ us hl => match us, hl with | [_], _ => rfl) ?_ ?_
  · rintro vs H Q E ⟨a, ns, rfl, _⟩
    rfl
  rintro f cdv A outer s H vs Q E free hr ⟨a, ns, rfl, hS, len, bits, q⟩
  have hr4 : Room 4 _ := hr.mono (by decide)
  refine ⟨_, (pss_cons (ps_asg (pe_cal C_draws free (hr.mono (by decide)) (pa_cons (pe_cal C_cell_at free (hr.mono (by decide)) (pa_cons (pv 0) (pa_cons pe_int pa_nil))) (pa_cons (pe_lst (pa_cons pe_int (pa_cons pe_int (pa_cons pe_int (pa_cons (pe_op op_pow pe_int pe_int) pa_nil))))) pa_nil))) (pg_lst (by rfl) (pgs_cons (pg_name (i := 1) sc_law.nd rfl (Or.inl rfl)) (pgs_cons (pg_name (i := 2) sc_law.nd rfl (Or.inl rfl)) (pgs_cons (pg_name (i := 3) sc_law.nd rfl (Or.inl rfl)) (pgs_cons (pg_name (i := 4) sc_law.nd rfl (Or.inl rfl)) pgs_nil))))))
    (pss_cons (ps_set (i := 5) sc_law.nd rfl (Or.inl rfl) (pe_cal C_sets free (hr.mono (by decide)) (pa_cons (pe_cal C_cell_at free (hr.mono (by decide)) (pa_cons (pv 0) (pa_cons pe_int pa_nil))) (pa_cons (pv 1) pa_nil))))
    (pss_cons (ps_set (i := 6) sc_law.nd rfl (Or.inl rfl) (pe_disp (pps_cons pe_str (pv 1) (pps_cons pe_str pe_str (pps_cons pe_str pe_non (pps_cons pe_str (pe_lst pa_nil) (pps_cons pe_str (pe_lst pa_nil) (pps_cons pe_str (pe_lst pa_nil) (pps_cons pe_str (pe_op op_rep (pe_lst (pa_cons pe_int pa_nil)) pe_int) pps_nil))))))) (by rfl) (by rfl) (fun z => by cases z) (by decide)))
    (pss_cons (ps_if (pt_cmpR (op_eqD (u64 hr)) (pv 5) (pe_lst pa_nil) (nomark _))
    (pss_cons (ps_set (i := 7) sc_law.nd rfl (Or.inl rfl) (pe_makeK MI GC hr4 (by rfl) gC k2 pass0 (pa_cons (pv 1) (pa_cons (pe_lst pa_nil) pa_nil)) (pk_cons (pv 4) pk_nil)))
    (pss_cons (ps_asg (pv 4) (pg_sub (pv 6) pe_str (set_dict (hu_of hr))))
    (pss_cons (ps_asg pe_non (pg_sub (pv 6) pe_str (set_dict (hu_of hr))))
    (pss_one (ps_ret (pe_and (pe_cal C_refused free (hr.mono (by decide)) (pa_cons (pv 7) (pa_cons (pv 1) pa_nil))) (pe_and (pe_cal C_looks free (hr.mono (by decide)) (pa_cons (pv 7) (pa_cons (pv 6) pa_nil))) (pe_one (pe_cal C_refused free (hr.mono (by decide)) (pa_cons (pv 7) (pa_cons (pv 1) pa_nil)))))))))))
    pss_nil)
    (pss_cons (ps_set (i := 8) sc_law.nd rfl (Or.inl rfl) (pe_op op_mod (pv 2) (pe_callB call_len_seq (by rfl) T.len (by decide +kernel) (pa_cons (pv 5) pa_nil))))
    (pss_cons (ps_set (i := 7) sc_law.nd rfl (Or.inl rfl) (pe_cal C_made free (hr.mono (by decide)) (pa_cons (pv 1) (pa_cons (pv 5) (pa_cons (pv 8) (pa_cons (pv 4) (pa_cons (pv 3) pa_nil)))))))
    (pss_cons (ps_asg (pe_ix ix_list (pe_lst (pa_cons (pe_op op_mod (pv 1) (pe_callB call_len_seq (by rfl) T.len (by decide +kernel) (pa_cons (pv 5) pa_nil))) (pa_cons (pv 8) (pa_cons (pe_op op_mod (pv 1) (pe_callB call_len_seq (by rfl) T.len (by decide +kernel) (pa_cons (pv 5) pa_nil))) (pa_cons (pv 8) (pa_cons (pv 8) pa_nil)))))) (pv 3) (fun _ _ => rfl)) (pg_sub (pv 6) pe_str (set_dict (hu_of hr))))
    (pss_cons (ps_asg (pe_ix ix_list (pe_lst (pa_cons pe_int (pa_cons pe_int (pa_cons (pv 4) (pa_cons (pv 4) (pa_cons (pv 4) pa_nil)))))) (pv 3) (fun _ _ => rfl)) (pg_sub (pv 6) pe_str (set_dict (hu_of hr))))
    (pss_cons (ps_asg (pe_ix ix_list (pv 5) (pe_dget (hu_of hr) (pv 6) pe_str (fun _ _ => rfl)) (fun _ _ => rfl)) (pg_sub (pv 6) pe_str (set_dict (hu_of hr))))
    (pss_cons (ps_for PassesOwn.never rfl (pi_list (pe_cal C_cells free (hr.mono (by decide)) (pa_cons (pv 0) (pa_cons pe_int pa_nil)))) (pg_name (i := 9) sc_law.nd rfl (Or.inl rfl))
    (pss_cons (ps_asg (pe_cal C_draws free (hr.mono (by decide)) (pa_cons (pv 9) (pa_cons (pe_lst (pa_cons pe_int (pa_cons pe_int (pa_cons (pe_op op_pow pe_int pe_int) pa_nil)))) pa_nil))) (pg_lst (by rfl) (pgs_cons (pg_name (i := 10) sc_law.nd rfl (Or.inl rfl)) (pgs_cons (pg_name (i := 2) sc_law.nd rfl (Or.inl rfl)) (pgs_cons (pg_name (i := 11) sc_law.nd rfl (Or.inl rfl)) pgs_nil)))))
    (pss_one (ps_if (PW.pt (pw_or (pt_not (pt_val (pe_cal C_deed free (hr.mono (by decide)) (pa_cons (pv 7) (pa_cons (pv 6) (pa_cons (pv 10) (pa_cons (pv 2) (pa_cons (pv 11) pa_nil)))))))) (pw_or1 (pt_not (pt_val (pe_cal C_looks free (hr.mono (by decide)) (pa_cons (pv 7) (pa_cons (pv 6) pa_nil))))))))
    (pss_one (ps_ret pe_bl))
    pss_nil))))
    (pss_one (ps_ret (pe_cal C_looks free (hr.mono (by decide)) (pa_cons (pv 7) (pa_cons (pv 6) pa_nil))))))))))))))), ?_⟩
  refine ⟨_, rfl, a, ns, 0, rfl, hS, by decide, bits, fun c0 hc0 => ?_⟩
  refine ⟨_, _, rfl, rfl, ⟨by decide, by decide, by decide⟩, by show 4 ≤ sizeLine; decide, fun tA htA => ?_⟩
  have s1 := same_upd (o := .lst [.int 9, .int 60, .int 5, .int (10 ^ (Int.toNat 40))]) htA
  refine ⟨tA, c0, [9, 60, 5, 10 ^ (Int.toNat 40)], rfl, upd_same, hc0, fun x hx => ?_, by decide, fun l ds hl lds bl => ?_⟩
  · simp only [List.mem_cons, List.not_mem_nil, or_false] at hx
    rcases hx with rfl | rfl | rfl | rfl <;> exact ⟨by decide, by decide⟩
  have s2 := same_upd (o := .lst (ds.map V.int)) hl
  obtain ⟨me, pick, way, nu, rfl⟩ := four lds
  obtain ⟨_, hm, m0, m1⟩ := bl 0 me rfl
  cases hm
  obtain ⟨_, hm, p0, p1⟩ := bl 1 pick rfl
  cases hm
  obtain ⟨_, hm, w0, w1⟩ := bl 2 way rfl
  cases hm
  have sA := s1.trans s2
  obtain ⟨G1, e1⟩ : ∃ G1, G1 = upd (upd H tA (.lst [.int 9, .int 60, .int 5, .int (10 ^ (Int.toNat 40))])) l (.lst ([me, pick, way, nu].map V.int)) := ⟨_, rfl⟩
  have kl : G1 l = some (.lst ([me, pick, way, nu].map V.int)) := by rw [e1]; exact upd_same
  rw [← e1] at sA
  rw [← e1]
  refine ⟨l, _, rfl, SqL.of kl, rfl, _, _, rfl, _, _, rfl, _, _, rfl, _, _, rfl, rfl, ?_⟩
  have hS1 := sA.seq hS
  refine ⟨_, rfl, a, ns, 1, rfl, hS1, by decide, bits, fun c1 hc1 => ⟨_, rfl, c1, me, rfl, hc1, m0, m1, fun sl tas S H2 hsl0 s3 ksl hT okS => ?_⟩⟩
  have sB := sA.trans s3
  refine fun b hb => ?_
  have s4 := same_upd (o := .dK []) hb
  refine ⟨_, rfl, Nat.zero_le _, fun ha hha => ⟨Nat.zero_le _, fun oa hoa => ⟨Nat.zero_le _, fun la hla => ?_⟩⟩⟩
  have s5 := same_upd (o := .lst []) hha
  have s6 := same_upd (o := .lst []) hoa
  have s7 := same_upd (o := .lst []) hla
  refine ⟨by show 1 ≤ sizeLine; decide, fun z hz => ?_⟩
  have s8 := same_upd (o := .lst [.int 0]) hz
  refine ⟨z, 9, _, rfl, rfl, upd_same, by decide, by decide, by decide, fun ta hta => ?_⟩
  have eT : (List.replicate (Int.toNat 9) [V.int 0]).flatten = ([0, 0, 0, 0, 0, 0, 0, 0, 0] : List Int).map V.int := rfl
  have s9 := same_upd (o := .lst (([0, 0, 0, 0, 0, 0, 0, 0, 0] : List Int).map V.int)) hta
  have kb0 : (upd (upd (upd (upd (upd (upd H2 b (.dK [])) ha (.lst [])) oa (.lst [])) la (.lst [])) z (.lst [.int 0])) ta (.lst (([0, 0, 0, 0, 0, 0, 0, 0, 0] : List Int).map V.int))) b = some (.dK []) := s9 _ _ (s8 _ _ (s7 _ _ (s6 _ _ (s5 _ _ upd_same))))
  refine ⟨kb0, [(kS "me", .int me), (kS "state", .str "out"), (kS "stamp", .non), (kS "hand", .ref ha), (kS "open", .ref oa), (kS "late", .ref la), (kS "tells", .ref ta)], rfl, by show 7 ≤ 15; decide, ?_⟩
  have sC := s4.trans (s5.trans (s6.trans (s7.trans (s8.trans s9))))
  have kha0 : (upd (upd (upd (upd (upd (upd H2 b (.dK [])) ha (.lst [])) oa (.lst [])) la (.lst [])) z (.lst [.int 0])) ta (.lst (([0, 0, 0, 0, 0, 0, 0, 0, 0] : List Int).map V.int))) ha = some (.lst []) := s9 _ _ (s8 _ _ (s7 _ _ (s6 _ _ upd_same)))
  have koa0 : (upd (upd (upd (upd (upd (upd H2 b (.dK [])) ha (.lst [])) oa (.lst [])) la (.lst [])) z (.lst [.int 0])) ta (.lst (([0, 0, 0, 0, 0, 0, 0, 0, 0] : List Int).map V.int))) oa = some (.lst []) := s9 _ _ (s8 _ _ (s7 _ _ upd_same))
  have kla0 : (upd (upd (upd (upd (upd (upd H2 b (.dK [])) ha (.lst [])) oa (.lst [])) la (.lst [])) z (.lst [.int 0])) ta (.lst (([0, 0, 0, 0, 0, 0, 0, 0, 0] : List Int).map V.int))) la = some (.lst []) := s9 _ _ (s8 _ _ upd_same)
  have kta0 : (upd (upd (upd (upd (upd (upd H2 b (.dK [])) ha (.lst [])) oa (.lst [])) la (.lst [])) z (.lst [.int 0])) ta (.lst (([0, 0, 0, 0, 0, 0, 0, 0, 0] : List Int).map V.int))) ta = some (.lst (([0, 0, 0, 0, 0, 0, 0, 0, 0] : List Int).map V.int)) := upd_same
  have ho_ha : oa ≠ ha := (ne_of_none upd_same hoa).symm
  have hl_oa : la ≠ oa := (ne_of_none upd_same hla).symm
  have hl_ha : la ≠ ha := (ne_of_none (s6 _ _ upd_same) hla).symm
  have ht_la : ta ≠ la := (ne_of_none (s8 _ _ upd_same) hta).symm
  have ht_oa : ta ≠ oa := (ne_of_none (s8 _ _ (s7 _ _ upd_same)) hta).symm
  have ht_ha : ta ≠ ha := (ne_of_none (s8 _ _ (s7 _ _ (s6 _ _ upd_same))) hta).symm
  show gName 6 (V.ref b) _ (upd (upd (upd (upd (upd (upd (upd H2 b (.dK [])) ha (.lst [])) oa (.lst [])) la (.lst [])) z (.lst [.int 0])) ta (.lst (([0, 0, 0, 0, 0, 0, 0, 0, 0] : List Int).map V.int))) b (.dK (mergeK [] (box7 me ha oa la ta)))) _
  rw [merge7]
  obtain ⟨G0, e0'⟩ : ∃ G0, G0 = (upd (upd (upd (upd (upd (upd H2 b (.dK [])) ha (.lst [])) oa (.lst [])) la (.lst [])) z (.lst [.int 0])) ta (.lst (([0, 0, 0, 0, 0, 0, 0, 0, 0] : List Int).map V.int))) := ⟨_, rfl⟩
  rw [← e0'] at sC kb0 kha0 koa0 kla0 kta0 ⊢
  have nb : ∀ {a : Addr} {xs : List V}, G0 a = some (.lst xs) → a ≠ b := fun h => ne_of h kb0 (by intro z; cases z)
  obtain ⟨G2, e2⟩ : ∃ G2, G2 = upd G0 b (.dK (box7 me ha oa la ta)) := ⟨_, rfl⟩
  have kb : G2 b = some (.dK (box7 me ha oa la ta)) := by rw [e2]; exact upd_same
  have kha : G2 ha = some (.lst []) := by rw [e2, upd_ne (nb kha0)]; exact kha0
  have koa : G2 oa = some (.lst []) := by rw [e2, upd_ne (nb koa0)]; exact koa0
  have kla : G2 la = some (.lst []) := by rw [e2, upd_ne (nb kla0)]; exact kla0
  have kta : G2 ta = some (.lst (([0, 0, 0, 0, 0, 0, 0, 0, 0] : List Int).map V.int)) := by rw [e2, upd_ne (nb kta0)]; exact kta0
  have s2G : Same H2 G2 := fun a o e => by rw [e2, upd_ne (ne_of_none e hb)]; exact sC _ _ e
  rw [← e2]
  clear e2 kb0 kha0 koa0 kla0 kta0 sC nb e0'
  refine ⟨_, rfl, Nat.zero_le _, fun E1 hE1 => ?_⟩
  have sE := same_upd (o := .lst []) hE1
  have ksl2 := sE _ _ (s2G _ _ ksl)
  have hT2 := tups_same (s2G.trans sE) hT
  refine ⟨.list (setsD S), .list [], .lst (SqL.of ksl2) (tups_data hT2), .lst (SqL.of upd_same) .nil, shaped_sets _, by decide, _, rfl, ?_⟩
  rw [eqv_nil]
  obtain ⟨G3, e3⟩ : ∃ G3, G3 = upd G2 E1 (.lst []) := ⟨_, rfl⟩
  rw [← e3] at sE ksl2 hT2
  rw [← e3]
  have kb3 := sE _ _ kb
  have s23 := s2G.trans sE
  have sHD := (sB.trans s2G).trans sE
  by_cases cS : S = []
  · refine iteT' (decide_eq_true cS) ?_
    refine ⟨_, rfl, Nat.zero_le _, fun E2 hE2 => ⟨_, rfl, rfl, rfl, fun y dy hy hdy ne => ?_⟩⟩
    have sF := same_upd (o := .lst []) hE2
    have sy := (same_upd (o := .own y) hdy).trans (same_upd (o := .ins C dy []) (by rw [upd_ne ne.symm]; exact hy))
    refine ⟨y, dy, E2, me, nu, .non, none, [], [], rfl, upd_same, sy _ _ upd_same, ⟨rfl, fun i t one h => by simp at h⟩, .inl ⟨rfl, rfl⟩, fun sa H9 c9 hsa V9 => ⟨rfl, ?_⟩⟩
    have yb : b ≠ y := ne_of_none (sF _ _ kb3) hy
    have yh : ha ≠ y := ne_of_none (sF _ _ (sE _ _ kha)) hy
    have kb9 := c9 _ _ yb (sy _ _ (sF _ _ kb3))
    have kh9 := c9 _ _ yh (sy _ _ (sF _ _ (sE _ _ kha)))
    have sab : sa ≠ b := fun z => by rw [z, sy _ _ (sF _ _ kb3)] at hsa; cases hsa
    have hab : ha ≠ b := ne_of kh9 kb9 (by intro z; cases z)
    refine ⟨_, rfl, _, rfl, b, _, rfl, .inl ⟨_, kS "count", kb9, rfl, by show 7 < sizeLine; decide, rfl⟩, ?_⟩
    rw [put_countE]
    have V10 := V9.mut kb9 dK_no (fun _ _ _ z => nomatch z) sab (Chg.self (o := .dK (boxC me ha oa la ta nu)))
    refine ⟨_, rfl, b, _, rfl, .inl ⟨_, kS "begin", upd_same, rfl, by show 8 < sizeLine; decide, rfl⟩, ?_⟩
    rw [put_beginE]
    have V11 := V10.mut upd_same dK_no (fun _ _ _ z => nomatch z) sab (Chg.self (o := .dK (boxE me ha oa la ta nu)))
    refine ⟨_, rfl, _, rfl, y, dy, sa, me, nu, me, "out", none, [], [], rfl, V11, fun H12 s12 => ⟨_, rfl, iteT' rfl ?_⟩⟩
    refine ⟨_, rfl, _, rfl, y, dy, sa, b, ha, me, nu, me, "out", none, [], [], [], [], boxE me ha oa la ta nu, .non, rfl, V11.same s12, ⟨s12 _ _ upd_same, boxE_state .., ⟨.non, boxE_stamp .., .non⟩, boxE_hand .., boxE_count .., boxE_begin .., s12 _ _ ((upd_ne hab).trans ((upd_ne hab).trans kh9))⟩, by decide, fun one h => by simp at h, by decide, .nil, .nil, fun x => Iff.rfl, .inl ⟨rfl, rfl⟩, fun H13 s13 => ⟨_, rfl, iteT' rfl ?_⟩⟩
    exact ⟨_, rfl, _, rfl, y, dy, sa, me, nu, me, "out", none, [], [], rfl, (V11.same s12).same s13, fun H14 _ => q H14⟩
  · refine iteF' (decide_eq_false cS) ?_
    have Spos : 0 < S.length := List.length_pos_iff.mpr cS
    have ltS : (tas.map V.ref).length = S.length := by rw [List.length_map]; exact hT.1
    refine ⟨_, rfl, _, rfl, sl, _, rfl, .inl (SqL.of ksl2), _, _, rfl, rfl, (by rw [ltS]; show (0 : Int) < (S.length : Int); omega), ?_⟩
    show gName 8 (V.int (pick % ((tas.map V.ref).length : Int))) _ G3 _
    rw [ltS]
    obtain ⟨bi, ebi⟩ : ∃ bi : Int, pick % (S.length : Int) = bi := ⟨_, rfl⟩
    have bi0 : 0 ≤ bi := by rw [← ebi]; exact Int.emod_nonneg _ (by omega)
    have bi1 : bi < S.length := by rw [← ebi]; exact Int.emod_lt_of_pos _ (by omega)
    rw [ebi]
    refine ⟨_, rfl, _, rfl, _, rfl, _, rfl, _, rfl, sl, me, bi, nu, way, S, tas, rfl, ksl2, hT2, fun p dx sa H4 s34 hsa VA => ?_⟩
    have kb4 := s34 _ _ kb3
    have ksl4 := s34 _ _ ksl2
    have sab : sa ≠ b := fun z => by rw [z, kb3] at hsa; cases hsa
    have slb : sl ≠ b := ne_of ksl4 kb4 (by intro z; cases z)
    have w5 : way = 0 ∨ way = 1 ∨ way = 2 ∨ way = 3 ∨ way = 4 := by omega
    have at5 : ∀ A B : Int, atI [V.int A, .int B, .int A, .int B, .int B] way = some (.int (if way = 0 ∨ way = 2 then A else B)) := fun A B => by
      rcases w5 with rfl | rfl | rfl | rfl | rfl
      · rw [if_pos (.inl rfl)]; rfl
      · rw [if_neg (by decide)]; rfl
      · rw [if_pos (.inr rfl)]; rfl
      · rw [if_neg (by decide)]; rfl
      · rw [if_neg (by decide)]; rfl
    have atC : ∀ A : Int, atI [V.int 0, .int 0, .int A, .int A, .int A] way = some (.int (if way = 0 ∨ way = 1 then 0 else A)) := fun A => by
      rcases w5 with rfl | rfl | rfl | rfl | rfl
      · rw [if_pos (.inl rfl)]; rfl
      · rw [if_pos (.inr rfl)]; rfl
      · rw [if_neg (by decide)]; rfl
      · rw [if_neg (by decide)]; rfl
      · rw [if_neg (by decide)]; rfl
    obtain ⟨fst, efst⟩ : ∃ fst : Int, (if way = 0 ∨ way = 2 then me else bi) = fst := ⟨_, rfl⟩
    obtain ⟨cnt, ecnt⟩ : ∃ cnt : Int, (if way = 0 ∨ way = 1 then 0 else nu) = cnt := ⟨_, rfl⟩
    rw [efst, ecnt] at VA
    have ebg : (if way = 0 ∨ way = 2 then me % (S.length : Int) else bi) = fst % (S.length : Int) := by
      rw [← efst]
      split
      · rfl
      · rw [Int.emod_eq_of_lt bi0 bi1]
    have f0 := Int.emod_nonneg fst (show (S.length : Int) ≠ 0 by omega)
    have f1 := Int.emod_lt_of_pos fst (show 0 < (S.length : Int) by omega)
    obtain ⟨j, ej⟩ : ∃ j : Nat, fst % (S.length : Int) = (j : Int) := ⟨(fst % (S.length : Int)).toNat, by omega⟩
    have jl : j < S.length := by omega
    have jt : j < tas.length := by rw [hT.1]; exact jl
    obtain ⟨ss, hss⟩ : ∃ ss, S[j]? = some ss := ⟨_, List.getElem?_eq_getElem jl⟩
    obtain ⟨se, hse⟩ : ∃ se, tas[j]? = some se := ⟨_, List.getElem?_eq_getElem jt⟩
    have qse := tups_same s34 hT2 |>.2 j se ss hse hss
    have cst : Cst S ss me fst (.int (fst % (S.length : Int))) := ⟨okS, cS, ⟨j, ej, hss⟩, rfl, m0, m1⟩
    refine ⟨_, rfl, _, rfl, sl, _, rfl, .inl (SqL.of ksl4), _, _, rfl, rfl, (by rw [ltS]; show (0 : Int) < (S.length : Int); omega), _, rfl, _, rfl, _, rfl, sl, _, rfl, .inl (SqL.of ksl4), _, _, rfl, rfl, (by rw [ltS]; show (0 : Int) < (S.length : Int); omega), _, rfl, _, rfl, by show 5 ≤ sizeLine; decide, fun l5 hl5 => ?_⟩
    have s5' := fun o => same_upd (o := o) hl5
    refine ⟨_, rfl, l5, _, way, _, rfl, rfl, SqL.of upd_same, at5 _ _, _, rfl, b, _, rfl, .inl ⟨_, kS "begin", s5' _ _ _ kb4, rfl, by show 7 < sizeLine; decide, rfl⟩, ?_⟩
    rw [put_begin, ltS, ebg]
    have c5 : ∀ o o', Chg b H4 (upd (upd H4 l5 o) b o') := fun o o' => (Chg.same (s5' o)).trans Chg.self
    refine ⟨_, rfl, _, rfl, _, rfl, by show 5 ≤ sizeLine; decide, fun l6 hl6 => ?_⟩
    have s6' := fun o => same_upd (o := o) hl6
    refine ⟨_, rfl, l6, _, way, _, rfl, rfl, SqL.of upd_same, atC _, _, rfl, b, _, rfl, .inl ⟨_, kS "count", s6' _ _ _ upd_same, rfl, by show 8 < sizeLine; decide, rfl⟩, ?_⟩
    rw [put_count, ecnt]
    have hS4 := (sHD.trans s34).seq hS
    have atS : atI (tas.map V.ref) (fst % (S.length : Int)) = some (.ref se) := by
      rw [ej]
      exact atI_nat (by rw [List.getElem?_map, hse]; rfl)
    have dK_nol : ∀ {kvs : List (Key × V)}, (∀ ys, (HO.dK kvs) ≠ .lst ys) ∧ ∀ u ys, (HO.dK kvs) ≠ .frz u ys := ⟨(fun _ z => nomatch z), (fun _ _ z => nomatch z)⟩
    refine ⟨_, rfl, _, rfl, b, _, rfl, .inl ⟨_, kS "begin", .inl upd_same, rfl, (box9_begin _ _ _ _ _ _ _).symm⟩, sl, _, _, .ref se, rfl, rfl, SqL.of ((Chg.trans (Chg.trans (Chg.same (same_upd hl5)) Chg.self) (Chg.trans (Chg.same (same_upd hl6)) Chg.self)) _ _ slb ksl4), atS, _, rfl, b, _, rfl, .inl ⟨_, kS "set", upd_same, rfl, by show 9 < sizeLine; decide, rfl⟩, ?_⟩
    rw [put_set]
    refine ⟨_, rfl, a, ns, rfl, sql_mut kb4 dK_nol (Chg.trans (Chg.trans (Chg.same (same_upd hl5)) Chg.self) (Chg.trans (Chg.same (same_upd hl6)) (Chg.trans Chg.self Chg.self))) hS4, len, bits, fun L H8 cs hL s78 kL lc bc => ?_⟩
    have c8 : Chg b H4 H8 := Chg.trans (Chg.trans (Chg.same (same_upd hl5)) Chg.self) (Chg.trans (Chg.same (same_upd hl6)) (Chg.trans Chg.self (Chg.trans Chg.self (Chg.same s78))))
    have kb8 : H8 b = some (.dK (boxL me "out" .non ha oa la ta (.int (fst % (S.length : Int))) cnt se)) := s78 _ _ upd_same
    have V8 := VA.mut kb4 dK_no (fun _ _ _ z => nomatch z) sab c8
    have nb : ∀ {x : Addr} {xs : List V}, H4 x = some (.lst xs) → x ≠ b := fun h => ne_of h kb4 (by intro z; cases z)
    have s24 := sE.trans s34
    have kha4 := s24 _ _ kha
    have koa4 := s24 _ _ koa
    have kla4 := s24 _ _ kla
    have kta4 := s24 _ _ kta
    have key : ∀ GX : Hp, Chg b H4 GX → GX L = none → ∀ (x : Addr) (o : HO), H4 x = some o → x ≠ b → L ≠ x := fun GX c h x o e nbx z => by
      have := c _ _ nbx e
      rw [← z, h] at this
      cases this
    have Ln : ∀ (x : Addr) (o : HO), H4 x = some o → x ≠ b → L ≠ x := by
      refine key _ ?_ hL
      exact Chg.trans (Chg.trans (Chg.same (same_upd hl5)) Chg.self) (Chg.trans (Chg.same (same_upd hl6)) (Chg.trans Chg.self Chg.self))
    have sV := VA
    obtain ⟨sv, hnd, knw, dsk, sett, tas2, R4⟩ := sV
    have n1 := Ln _ _ R4.hs sab
    have n2 := Ln _ _ kha4 (nb kha4)
    have n3 := Ln _ _ koa4 (nb koa4)
    have n4 := Ln _ _ kla4 (nb kla4)
    have n5 := Ln _ _ kta4 (nb kta4)
    have sax : ∀ {x : Addr} {xs : List V}, G2 x = some (.lst xs) → sa ≠ x := fun h z => by
      have := sE _ _ h
      rw [← z] at this
      rw [hsa] at this
      cases this
    have m1' := sax kha
    have m2' := sax koa
    have m3' := sax kla
    have m4' := sax kta
    have nd : [L, sa, ha, oa, la, ta].Nodup := by
      simp only [List.nodup_cons, List.mem_cons, not_or, List.not_mem_nil, not_false_eq_true, and_true, List.nodup_nil]
      exact ⟨⟨n1, n2, n3, n4, n5⟩, ⟨m1', m2', m3', m4'⟩, ⟨ho_ha.symm, hl_ha.symm, ht_ha.symm⟩, ⟨hl_oa.symm, ht_oa.symm⟩, ht_la.symm⟩
    have W8 : Wd K C L b p dx sa se cs me fst S ss (.int (fst % (S.length : Int))) H8 "out" none cnt ha oa la ta [] [] [] [0, 0, 0, 0, 0, 0, 0, 0, 0] := by
      refine ⟨⟨[], [], ⟨?_, kL, c8 _ _ (nb kha4) kha4, c8 _ _ (nb koa4) koa4, c8 _ _ (nb kla4) kla4, c8 _ _ (nb kta4) kta4, ⟨rfl, fun i t one h => by simp at h⟩, sqt_mut kb4 dK_no c8 qse, nd⟩, .nil, fun x => Iff.rfl⟩, ⟨.non, kb8, .non⟩, ?_⟩
      · rw [if_pos rfl]
        exact V8
      · exact ⟨.nil, fun x h => by simp at h, .nil, fun x h => by simp at h, rfl, by decide, fun e h => by simp at h, .inl ⟨rfl, rfl, rfl, rfl⟩⟩
    refine ⟨L, rfl, ⟨_, SqL.of kL⟩, ?_⟩
    refine for_list (K := K) (a := L) (xs := cs.map V.int) (fun i σ G => (∃ z2 z9 z10 z11 : Option V, σ = [some (V.ref a), some (V.int me), z2, some (V.int way), some (V.int nu), some (V.ref sl), some (V.ref b), some (V.ref p), some (V.int bi), z9, z10, z11]) ∧ WdX K C L b p dx sa se cs me fst S ss (.int (fst % (S.length : Int))) G) ⟨⟨_, _, _, _, rfl⟩, ⟨_, _, _, _, _, _, _, _, _, _, _, W8⟩⟩ (fun i σ G _ h => ?_) ?_ ?_
    · obtain ⟨_, _, _, _, _, _, _, _, _, _, _, _, W⟩ := h
      obtain ⟨_, _, F, _⟩ := W.hf
      exact SqL.of F.kL
    · rintro i x σ G hx ⟨⟨z2, z9, z10, z11, rfl⟩, ⟨stt, stp, cn9, ha9, oa9, la9, ta9, hb9, ob9, lt9, tl9, W⟩⟩
      obtain ⟨c, hc, rfl⟩ : ∃ k : Int, cs[i]? = some k ∧ x = .int k := by
        rw [List.getElem?_map] at hx
        cases z : cs[i]? with
        | none => rw [z] at hx; cases hx
        | some k => rw [z] at hx; exact ⟨k, rfl, (Option.some.inj hx).symm⟩
      refine ⟨_, rfl, _, _, rfl, rfl, ⟨by decide, by decide, by decide⟩, by show 3 ≤ sizeLine; decide, fun tB htB => ?_⟩
      refine ⟨tB, c, [9, 5040, 10 ^ (Int.toNat 40)], rfl, upd_same, bc c (List.mem_of_getElem? hc), fun x hx => ?_, by decide, fun l' ds' hl' lds' bl' => ?_⟩
      · simp only [List.mem_cons, List.not_mem_nil, or_false] at hx
        rcases hx with rfl | rfl | rfl <;> exact ⟨by decide, by decide⟩
      obtain ⟨kind, pk, more, rfl⟩ := three lds'
      have sX := (same_upd (o := .lst [.int 9, .int 5040, .int (10 ^ (Int.toNat 40))]) htB).trans (same_upd (o := .lst ([kind, pk, more].map V.int)) hl')
      refine ⟨l', _, rfl, SqL.of upd_same, rfl, _, _, rfl, _, _, rfl, _, _, rfl, rfl, ?_⟩
      refine ⟨_, rfl, _, rfl, _, rfl, _, rfl, _, rfl, L, b, p, dx, sa, se, cs, ss, me, fst, kind, pk, more, S, _, rfl, cst, ⟨_, _, _, _, _, _, _, _, _, _, _, W.same sX⟩, fun H' W' => ⟨_, rfl, iteF' rfl ?_⟩⟩
      obtain ⟨stt', stp', cn', ha', oa', la', ta', hb', ob', lt', tl', W'⟩ := W'
      obtain ⟨hs1, vs1, kvs1, a1, a2, a3, a4, a5, a6, a7, a8, a9⟩ := looks_args cst W'
      refine ⟨_, rfl, _, rfl, p, dx, sa, b, ha', me, cn', fst, stt', stp', hs1, vs1, hb', S, kvs1, _, rfl, a1, a2, a3, a4, a5, a6, a7, a8, a9, fun H'' s'' => ⟨_, rfl, iteF' rfl ?_⟩⟩
      exact ⟨⟨_, _, _, _, rfl⟩, ⟨_, _, _, _, _, _, _, _, _, _, _, W'.same s''⟩⟩
    · rintro σ G ⟨⟨z2, z9, z10, z11, rfl⟩, ⟨stt, stp, cn9, ha9, oa9, la9, ta9, hb9, ob9, lt9, tl9, W⟩⟩
      obtain ⟨hs1, vs1, kvs1, a1, a2, a3, a4, a5, a6, a7, a8, a9⟩ := looks_args cst W
      exact ⟨_, rfl, _, rfl, p, dx, sa, b, ha9, me, cn9, fst, stt, stp, hs1, vs1, hb9, S, kvs1, _, rfl, a1, a2, a3, a4, a5, a6, a7, a8, a9, fun H'' _ => q H''⟩
end

end G0
namespace G0
open PySem PySem.Spec PyProof.Rows L2 NdefX ClX
/-! ### the whole -/
theorem xt_B {P : Program} {w : World} {K : PySem.W.Frag} {mg : Str → Option Value} {base : Heap} {C fN cc cda : Addr} {oc kV dc pm ct cl ccl : Value} {od an cld cdd : Option Addr} {osl csl ccs : Array (Option Value)} {vs : Array Value} {file : Str} {tf : Tok} {cdD : ClassData}
    (X : XcK K C "seat") (a2 : PySem.W.findIn K (.ref C) "__init__" = some (some (.ref fN))) (a3 : PySem.W.typeIn K (.ref fN) = some (.type "function"))
    (a4 : K.lookup fN = some ⟨oc, od, .func (PySem.W.ksFn "__init__" "Barred.__init__" (defArgs s_Barred__init) (defBody s_Barred__init) (defScope s_Barred__init) .none kV dc pm an (.ref cda) ct cc), osl⟩)
    (a5 : PySem.W.codeIn K (.ref cda) "Barred.__init__" = true) (a6 : K.lookup cc = some ⟨cl, cld, .cell (some (.ref C)), csl⟩) (a7 : K.lookup cda = some ⟨ccl, cdd, .fields vs, ccs⟩)
    (w8 : vs[2]? = some (.str file tf)) (w9 : ((P.main.file : Str) == file) = true) (w10 : PySem.W.clsIn K C = some cdD) (a11 : PySem.W.nsIn K mainGlobals "super" = some none)
    (w12 : (P.main.scope.names.lookup ("super" : Str)).isSome = false) (a13 : PySem.W.nsIn K cStatics "thirdparty.any" = some none) :
    ∃ fN fdN, PySem.W.findIn K (.ref C) "__init__" = some (some (.ref fN)) ∧ PySem.W.typeIn K (.ref fN) = some (.type "function") ∧ FnOk P w K mg base CX0 1 fN fdN ["self", "seat"] (spXI C "seat") ∧ Binds K fdN ["self", "seat"] [] := by
  have F : SupF P K ["self", "seat", "__class__"] fN cc cda C (PySem.W.ksFn "__init__" "Barred.__init__" (defArgs s_Barred__init) (defBody s_Barred__init) (defScope s_Barred__init) .none kV dc pm an (.ref cda) ct cc) (defArgs s_Barred__init) (defScope s_Barred__init) := {
    fun_ := ⟨_, _, _, a4, rfl⟩
    arg := ⟨_, rfl, rfl, by decide +kernel⟩
    code := ⟨_, _, _, _, _, _, a7, w8, w9⟩
    cell := ⟨_, _, _, a6⟩
    cls := ⟨_, w10⟩
    miss := a11
    sup := by decide +kernel
    own := by decide +kernel
    kind := rfl
    top := w12
    any_ := a13 }
  have NS : NScope ["self", "seat", "__class__"] ["self", "seat"] ["__class__"] (defScope s_Barred__init) := nscope_by (by decide +kernel)
  exact ⟨fN, _, a2, a3, ok_xinit (m := "this seat has no free set") a4 a5 a6 NS X (by decide) (by decide) (fun env => ⟨_, rfl⟩) (fun env => rfl) (fun env => rfl) F, .all (fun us hl => match us, hl with | [_, _], _ => rfl)⟩
theorem me_of {P : Program} {w : World} {K : PySem.W.Frag} {mg : Str → Option Value} {base : Heap} {CX : CXT} {C : Addr} {x qual : Str} {st : Stmt} {k : Nat} {ps : List Str} {sp : Sp}
    (F : Fm K C x qual st) (ok : ∀ f fd, Fun K x qual st f fd → FnOk P w K mg base CX k f fd ps sp)
    (bd : ∀ (kV doc pm : Value) (an : Option Addr) (cdv ct : Value) (us : List Value), us.length = ps.length →
      bindArgs (PySem.W.fnOf x qual (defArgs st) (defBody st) (defScope st) .none kV doc pm an cdv ct) ⟨us, []⟩ = pure (ps.zip us)) :
    Me P w K mg base CX C x k ps sp := by
  obtain ⟨f, fd, F, m⟩ := F
  exact ⟨f, fd, ok f fd F, F.binds bd, m⟩
theorem gd : ∀ {zs : List V} {ws : List Value}, Vals zs ws → ∀ i, RelV (zs.getD i .non) (ws.getD i .none)
  | _, _, .nil, i => by simp; rfl
  | _, _, .cons h t, 0 => h
  | _, _, .cons h t, i + 1 => gd t i
theorem made_of {P : Program} {w : World} {K : PySem.W.Frag} {mg : Str → Option Value} {base : Heap} {C CD fI cc cda Dk fS fK : Addr} {ocI dcI pmI ctI clI ccl : Value} {odI anI cldI cdd : Option Addr} {oslI csl ccs : Array (Option Value)} {vs : Array Value} {file : Str} {tf td : Tok} {cdD : ClassData} {fd2 fdK : FuncData}
    (T : BlV mg) (S : VoT K C) (mgC : mg "Voter" = some (.ref C)) (mk : PySem.W.makesIn K C = true) (kc : PySem.W.keepIn K (.ref C) = true)
    (FS : Fun K "__init__" "Seat.__init__" s_Seat__init fS fd2)
    (i1 : PySem.W.findIn K (.ref C) "__init__" = some (some (.ref fI))) (i2 : PySem.W.isFn K (.ref fI) = true)
    (i3 : K.lookup fI = some ⟨ocI, odI, .func (PySem.W.ksFn "__init__" "Voter.__init__" (defArgs s_Voter__init) (defBody s_Voter__init) (defScope s_Voter__init) .none (.ref Dk) dcI pmI anI (.ref cda) ctI cc), oslI⟩)
    (i4 : PySem.W.codeIn K (.ref cda) "Voter.__init__" = true) (i5 : K.lookup cc = some ⟨clI, cldI, .cell (some (.ref C)), csl⟩) (i6 : K.lookup cda = some ⟨ccl, cdd, .fields vs, ccs⟩)
    (w7 : vs[2]? = some (.str file tf)) (w8 : ((P.main.file : Str) == file) = true) (w9 : PySem.W.clsIn K C = some cdD) (i10 : PySem.W.nsIn K mainGlobals "super" = some none)
    (w11 : (P.main.scope.names.lookup ("super" : Str)).isSome = false) (i12 : PySem.W.nsIn K cStatics "thirdparty.any" = some none) (w13 : PySem.W.mroIn K C (.ref C) = some true)
    (w14 : PySem.W.ks_superIn K C C "__init__" = some (some (.ref fS))) (i15 : PySem.W.typeIn K (.ref fS) = some (.type "function")) (w16 : PySem.W.fnIn K fS = true)
    (i17 : PySem.W.nsIn K Dk "first" = some (some .none)) (i18 : PySem.W.nsIn K Dk "count" = some (some (.int 0 td)))
    (KT : DeskT K mg CD) (KKm : Mk K CD fK) (FK : Fun K "__init__" "Desk.__init__" s_Desk__init fK fdK) : MkV P w K mg base C := by
  have F2 : FnR P w K mg base CX0 1 fS (spSeat0 C) := fnR_of (ps := ["self", "me"]) (ok_seat0 FS S.cl S.me S.state S.sits) (FS.binds (fun _ _ _ _ _ _ us hl => match us, hl with | [_, _], _ => rfl) )
  have F : SupF P K ["self", "me", "sets", "first", "count", "__class__"] fI cc cda C (PySem.W.ksFn "__init__" "Voter.__init__" (defArgs s_Voter__init) (defBody s_Voter__init) (defScope s_Voter__init) .none (.ref Dk) dcI pmI anI (.ref cda) ctI cc) (defArgs s_Voter__init) (defScope s_Voter__init) := {
    fun_ := ⟨_, _, _, i3, rfl⟩
    arg := ⟨_, rfl, rfl, by decide +kernel⟩
    code := ⟨_, _, _, _, _, _, i6, w7, w8⟩
    cell := ⟨_, _, _, i5⟩
    cls := ⟨_, w9⟩
    miss := i10
    sup := by decide +kernel
    own := by decide +kernel
    kind := rfl
    top := w11
    any_ := i12 }
  have GK := ok_dinit (P := P) (w := w) (base := base) FK KT
  have bK : Binds K fdK ["self"] [] := FK.binds (fun _ _ _ _ _ _ us hl => match us, hl with | [_], _ => rfl) 
  refine ⟨⟨fI, _, [.none, .int 0 td], .int 0 td, ok_vinit T i3 i4 i5 F F2 S w13 w14 i15 w16 KKm GK bK KT.mgC, ⟨mk, i1, i2, kc⟩, .cons rfl (.cons ⟨td, rfl⟩ .nil), fun s us X hl => ?_, ⟨td, rfl⟩, ⟨fun s us ws X l1 l2 => ?_, fun r1 r2 => (r1.append r2).append (.cons ⟨td, rfl⟩ .nil)⟩, ⟨fun s us ws X l1 l2 => ?_, fun r1 r2 => (r1.append (.cons (show RelV .non .none from rfl) .nil)).append r2⟩, ⟨fun s us ws X l1 l2 => ?_, fun r1 r2 => r1.append (.cons (gd r2 1) (.cons (gd r2 0) .nil))⟩⟩, mgC⟩
  · have l3 : us.length = 3 := by
      rw [List.length_append] at hl
      exact Nat.succ.inj (Nat.succ.inj hl)
    refine BindsTo.of_looks fun M => KwChain.looks (l := [("first", .none), ("count", .int 0 td)]) X (fun q hq => by
      rcases List.mem_cons.mp hq with e | hq
      · rw [e]; exact i17
      · rw [List.mem_singleton.mp hq]; exact i18) ?_
    match us, l3 with
    | [_, _, _], _ => exact ⟨_, _, _, _, _, _, rfl, rfl, ⟨_, _, _, _, _, _, rfl, rfl, rfl⟩⟩
  · refine BindsTo.of_looks fun M => KwChain.looks (l := [("count", .int 0 td)]) X (fun q hq => by
      rw [List.mem_singleton.mp hq]; exact i18) ?_
    match us, ws, l1, l2 with
    | [_, _, _], [_], _, _ => exact ⟨_, _, _, _, _, _, rfl, rfl, rfl⟩
  · refine BindsTo.of_looks fun M => KwChain.looks (l := [("first", .none)]) X (fun q hq => by
      rw [List.mem_singleton.mp hq]; exact i17) ?_
    match us, ws, l1, l2 with
    | [_, _, _], [_], _, _ => exact ⟨_, _, _, _, _, _, rfl, rfl, rfl⟩
  · match us, ws, l1, l2 with
    | [_, _, _], [_, _], _, _ => exact .of_eq rfl
theorem whole {P : Program} {w : World} {K : PySem.W.Frag} {mg : Str → Option Value} {base : Heap} {C CB : Addr} (T : BlV mg) (S : VoT K C) (XB : XT P w K mg base CB "Barred" "seat") (ex : PySem.W.exmOne K (.ref CB) (.ref CB) = some true) (MC : MkV P w K mg base C)
    (F_law_draws : Fn K mg "_law_draws" s_law_draws) (F_law_same : Fn K mg "_law_same" s_law_same) (F_law_cell_at : Fn K mg "_law_cell_at" s_law_cell_at) (F_law_sets : Fn K mg "_law_sets" s_law_sets) (F_law_refused : Fn K mg "_law_refused" s_law_refused) (F_law_looks : Fn K mg "_law_looks" s_law_looks) (F_law_made : Fn K mg "_law_made" s_law_made) (F_law_asks : Fn K mg "_law_asks" s_law_asks) (F_law_leaves : Fn K mg "_law_leaves" s_law_leaves) (F_law_votes : Fn K mg "_law_votes" s_law_votes) (F_law_asked_back : Fn K mg "_law_asked_back" s_law_asked_back) (F_law_deed : Fn K mg "_law_deed" s_law_deed) (F_law_cells : Fn K mg "_law_cells" s_law_cells) (F_law : Fn K mg "law" s_law)
    (M_free_set : Fm K C "free_set" "Voter.free_set" s_Voter_free_set) (M_want : Fm K C "_want" "Voter._want" s_Voter_want) (M_done : Fm K C "_done" "Voter._done" s_Voter_done) (M_be_out : Fm K C "_be_out" "Voter._be_out" s_Voter_be_out) (M_leave : Fm K C "leave" "Voter.leave" s_Voter_leave) (M_ask : Fm K C "ask" "Voter.ask" s_Voter_ask) (M_hear_vote : Fm K C "_hear_vote" "Voter._hear_vote" s_Voter_hear_vote) (M_hear_back : Fm K C "_hear_back" "Voter._hear_back" s_Voter_hear_back) (M_hear : Fm K C "hear" "Voter.hear" s_Voter_hear) : Cal P w K mg base "law" 7 ["script"] (spLaw K) := by
  have Fs := me_of (P := P) (w := w) (mg := mg) (base := base) (CX := CX0) (ps := ["self"]) M_free_set (fun f fd F => ok_freeset F T S) (fun _ _ _ _ _ _ us hl => match us, hl with | [_], _ => rfl) 
  have Wn := me_of (P := P) (w := w) (mg := mg) (base := base) (CX := CX0) (ps := ["self", "number", "stamp"]) M_want (fun f fd F => ok_want F T S) (fun _ _ _ _ _ _ us hl => match us, hl with | [_, _, _], _ => rfl) 
  have Dn := me_of (P := P) (w := w) (mg := mg) (base := base) (CX := CX0) (ps := ["self"]) M_done (fun f fd F => ok_doneV F T S) (fun _ _ _ _ _ _ us hl => match us, hl with | [_], _ => rfl) 
  have Bo := me_of (P := P) (w := w) (mg := mg) (base := base) (CX := CX0) (ps := ["self"]) M_be_out (fun f fd F => ok_beout F S) (fun _ _ _ _ _ _ us hl => match us, hl with | [_], _ => rfl) 
  have Le := me_of (P := P) (w := w) (mg := mg) (base := base) (CX := CX0) (ps := ["self"]) M_leave (fun f fd F => ok_leaveV F S Dn Bo) (fun _ _ _ _ _ _ us hl => match us, hl with | [_], _ => rfl) 
  have As := me_of (P := P) (w := w) (mg := mg) (base := base) (CX := L2.CX P w) (ps := ["self"]) M_ask (fun f fd F => ok_askV F S XB Fs Wn) (fun _ _ _ _ _ _ us hl => match us, hl with | [_], _ => rfl) 
  have Hv := me_of (P := P) (w := w) (mg := mg) (base := base) (CX := CX0) (ps := ["self", "sender", "stamp", "count"]) M_hear_vote (fun f fd F => ok_hv F T S) (fun _ _ _ _ _ _ us hl => match us, hl with | [_, _, _, _], _ => rfl) 
  have Hb := me_of (P := P) (w := w) (mg := mg) (base := base) (CX := CX0) (ps := ["self", "sender", "stamp"]) M_hear_back (fun f fd F => ok_hb F T S) (fun _ _ _ _ _ _ us hl => match us, hl with | [_, _, _], _ => rfl) 
  have He := me_of (P := P) (w := w) (mg := mg) (base := base) (CX := CX0) (ps := ["self", "sender", "letter"]) M_hear (fun f fd F => ok_hearV F S Hv Hb) (fun _ _ _ _ _ _ us hl => match us, hl with | [_, _, _], _ => rfl) 
  have Dr := ok_draws (P := P) (w := w) (base := base) F_law_draws T.toBlD
  have Sa := ok_sames (P := P) (w := w) (base := base) F_law_same T.toBlD 3
  exact ok_law F_law T S MC (ok_cell F_law_cell_at T) Dr (ok_sets F_law_sets T Dr) (ok_refV F_law_refused T S XB ex As Sa) (ok_looksV F_law_looks T S Fs Sa) (ok_madeV F_law_made T MC) (ok_cells F_law_cells T.toBlD)
    (ok_deedV F_law_deed T S He Sa (ok_asksV F_law_asks T S As Sa) (ok_abV F_law_asked_back T S He Sa) (ok_leavesV F_law_leaves T S Le Sa) (ok_votesV F_law_votes T S He Sa))
theorem all_mk {P : Program} {w : World} {K : PySem.W.Frag} {h : Heap} {mg : Str → Option Value} {fa : Addr}
    {C_Voter : Addr} {C_Seat : Addr} {C_Desk : Addr} {f1 : Addr} {od1 an1 : Option Addr} {sl1 : Array (Option Value)} {oc1 kV1 dc1 pm1 cd1 ct1 : Value} {f2 : Addr} {od2 an2 : Option Addr} {sl2 : Array (Option Value)} {oc2 kV2 dc2 pm2 cd2 ct2 : Value} {f3 : Addr} {od3 an3 : Option Addr} {sl3 : Array (Option Value)} {oc3 kV3 dc3 pm3 cd3 ct3 : Value} {f4 : Addr} {od4 an4 : Option Addr} {sl4 : Array (Option Value)} {oc4 kV4 dc4 pm4 cd4 ct4 : Value} {f5 : Addr} {od5 an5 : Option Addr} {sl5 : Array (Option Value)} {oc5 kV5 dc5 pm5 cd5 ct5 : Value} {f6 : Addr} {od6 an6 : Option Addr} {sl6 : Array (Option Value)} {oc6 kV6 dc6 pm6 cd6 ct6 : Value} {f7 : Addr} {od7 an7 : Option Addr} {sl7 : Array (Option Value)} {oc7 kV7 dc7 pm7 cd7 ct7 : Value} {f8 : Addr} {od8 an8 : Option Addr} {sl8 : Array (Option Value)} {oc8 kV8 dc8 pm8 cd8 ct8 : Value} {f9 : Addr} {od9 an9 : Option Addr} {sl9 : Array (Option Value)} {oc9 kV9 dc9 pm9 cd9 ct9 : Value} {f10 : Addr} {od10 an10 : Option Addr} {sl10 : Array (Option Value)} {oc10 kV10 dc10 pm10 cd10 ct10 : Value} {f11 : Addr} {od11 an11 : Option Addr} {sl11 : Array (Option Value)} {oc11 kV11 dc11 pm11 cd11 ct11 : Value} {f12 : Addr} {od12 an12 : Option Addr} {sl12 : Array (Option Value)} {oc12 kV12 dc12 pm12 cd12 ct12 : Value} {f13 : Addr} {od13 an13 : Option Addr} {sl13 : Array (Option Value)} {oc13 kV13 dc13 pm13 cd13 ct13 : Value} {f14 : Addr} {od14 an14 : Option Addr} {sl14 : Array (Option Value)} {oc14 kV14 dc14 pm14 cd14 ct14 : Value} {f15 : Addr} {od15 an15 : Option Addr} {sl15 : Array (Option Value)} {oc15 kV15 dc15 pm15 cd15 ct15 : Value} {f16 : Addr} {od16 an16 : Option Addr} {sl16 : Array (Option Value)} {oc16 kV16 dc16 pm16 cd16 ct16 : Value} {f17 : Addr} {od17 an17 : Option Addr} {sl17 : Array (Option Value)} {oc17 kV17 dc17 pm17 cd17 ct17 : Value} {f18 : Addr} {od18 an18 : Option Addr} {sl18 : Array (Option Value)} {oc18 kV18 dc18 pm18 cd18 ct18 : Value} {f19 : Addr} {od19 an19 : Option Addr} {sl19 : Array (Option Value)} {oc19 kV19 dc19 pm19 cd19 ct19 : Value} {f20 : Addr} {od20 an20 : Option Addr} {sl20 : Array (Option Value)} {oc20 kV20 dc20 pm20 cd20 ct20 : Value} {f21 : Addr} {od21 an21 : Option Addr} {sl21 : Array (Option Value)} {oc21 kV21 dc21 pm21 cd21 ct21 : Value} {f22 : Addr} {od22 an22 : Option Addr} {sl22 : Array (Option Value)} {oc22 kV22 dc22 pm22 cd22 ct22 : Value} {f23 : Addr} {od23 an23 : Option Addr} {sl23 : Array (Option Value)} {oc23 kV23 dc23 pm23 cd23 ct23 : Value} {f24 : Addr} {od24 an24 : Option Addr} {sl24 : Array (Option Value)} {oc24 kV24 dc24 pm24 cd24 ct24 : Value} {f25 : Addr} {od25 an25 : Option Addr} {sl25 : Array (Option Value)} {oc25 kV25 dc25 pm25 cd25 ct25 : Value} {fI cc cda Dk : Addr} {ocI dcI pmI ctI clI ccl : Value} {odI anI cldI cdd : Option Addr} {oslI csl ccs : Array (Option Value)} {vs : Array Value} {file : Str} {tf td : Tok} {cdD : ClassData} {CB fB ccB cdaB NB : Addr} {ocB kVB dcB pmB ctB clB cclB : Value} {odB anB cldB cddB : Option Addr} {oslB cslB ccsB : Array (Option Value)} {vsB : Array Value} {fileB : Str} {tfB : Tok} {cdDB : ClassData} {nmB qB : Str} {bsB bmB subB : List Value} {snB : List Str} {abB : Bool} {colB : Option Bool} {ddB : Option Addr} {k0B k1B k2B k3B k5B : Option Value}
    (X : K.In h) (G : h.Ns mainGlobals mg) (hfa : mg "law" = some (.ref fa))
    (aC_Voter : PySem.W.nsIn K mainGlobals "Voter" = some (some (.ref C_Voter)))
    (pg_Voter : PySem.W.plainGet K C_Voter Str.empty = true)
    (hd_Voter : PySem.W.hasDictIn K C_Voter = true)
    (po_Voter : PySem.W.plainOver K C_Voter = true)
    (sa_Voter : PySem.W.findIn K (.ref C_Voter) "__setattr__" = some (some (.builtin "object.__setattr__")))
    (mk_Voter : PySem.W.makesIn K C_Voter = true)
    (kc_Voter : PySem.W.keepIn K (.ref C_Voter) = true)
    (aC_Seat : PySem.W.nsIn K mainGlobals "Seat" = some (some (.ref C_Seat)))
    (pg_Seat : PySem.W.plainGet K C_Seat Str.empty = true)
    (hd_Seat : PySem.W.hasDictIn K C_Seat = true)
    (po_Seat : PySem.W.plainOver K C_Seat = true)
    (sa_Seat : PySem.W.findIn K (.ref C_Seat) "__setattr__" = some (some (.builtin "object.__setattr__")))
    (mk_Seat : PySem.W.makesIn K C_Seat = true)
    (kc_Seat : PySem.W.keepIn K (.ref C_Seat) = true)
    (aC_Desk : PySem.W.nsIn K mainGlobals "Desk" = some (some (.ref C_Desk)))
    (pg_Desk : PySem.W.plainGet K C_Desk Str.empty = true)
    (hd_Desk : PySem.W.hasDictIn K C_Desk = true)
    (po_Desk : PySem.W.plainOver K C_Desk = true)
    (sa_Desk : PySem.W.findIn K (.ref C_Desk) "__setattr__" = some (some (.builtin "object.__setattr__")))
    (mk_Desk : PySem.W.makesIn K C_Desk = true)
    (kc_Desk : PySem.W.keepIn K (.ref C_Desk) = true)
    (a1 : PySem.W.nsIn K mainGlobals "_law_draws" = some (some (.ref f1)))
    (l1 : K.lookup f1 = some ⟨oc1, od1, .func (PySem.W.fnOf "_law_draws" "_law_draws" (defArgs s_law_draws) (defBody s_law_draws) (defScope s_law_draws) .none kV1 dc1 pm1 an1 cd1 ct1), sl1⟩)
    (c1 : PySem.W.codeIn K cd1 "_law_draws" = true)
    (k1 : PySem.W.keepIn K (.ref f1) = true)
    (a2 : PySem.W.nsIn K mainGlobals "_law_same" = some (some (.ref f2)))
    (l2 : K.lookup f2 = some ⟨oc2, od2, .func (PySem.W.fnOf "_law_same" "_law_same" (defArgs s_law_same) (defBody s_law_same) (defScope s_law_same) .none kV2 dc2 pm2 an2 cd2 ct2), sl2⟩)
    (c2 : PySem.W.codeIn K cd2 "_law_same" = true)
    (k2 : PySem.W.keepIn K (.ref f2) = true)
    (a3 : PySem.W.nsIn K mainGlobals "_law_cell_at" = some (some (.ref f3)))
    (l3 : K.lookup f3 = some ⟨oc3, od3, .func (PySem.W.fnOf "_law_cell_at" "_law_cell_at" (defArgs s_law_cell_at) (defBody s_law_cell_at) (defScope s_law_cell_at) .none kV3 dc3 pm3 an3 cd3 ct3), sl3⟩)
    (c3 : PySem.W.codeIn K cd3 "_law_cell_at" = true)
    (k3 : PySem.W.keepIn K (.ref f3) = true)
    (a4 : PySem.W.nsIn K mainGlobals "_law_sets" = some (some (.ref f4)))
    (l4 : K.lookup f4 = some ⟨oc4, od4, .func (PySem.W.fnOf "_law_sets" "_law_sets" (defArgs s_law_sets) (defBody s_law_sets) (defScope s_law_sets) .none kV4 dc4 pm4 an4 cd4 ct4), sl4⟩)
    (c4 : PySem.W.codeIn K cd4 "_law_sets" = true)
    (k4 : PySem.W.keepIn K (.ref f4) = true)
    (a5 : PySem.W.nsIn K mainGlobals "_law_refused" = some (some (.ref f5)))
    (l5 : K.lookup f5 = some ⟨oc5, od5, .func (PySem.W.fnOf "_law_refused" "_law_refused" (defArgs s_law_refused) (defBody s_law_refused) (defScope s_law_refused) .none kV5 dc5 pm5 an5 cd5 ct5), sl5⟩)
    (c5 : PySem.W.codeIn K cd5 "_law_refused" = true)
    (k5 : PySem.W.keepIn K (.ref f5) = true)
    (a6 : PySem.W.nsIn K mainGlobals "_law_looks" = some (some (.ref f6)))
    (l6 : K.lookup f6 = some ⟨oc6, od6, .func (PySem.W.fnOf "_law_looks" "_law_looks" (defArgs s_law_looks) (defBody s_law_looks) (defScope s_law_looks) .none kV6 dc6 pm6 an6 cd6 ct6), sl6⟩)
    (c6 : PySem.W.codeIn K cd6 "_law_looks" = true)
    (k6 : PySem.W.keepIn K (.ref f6) = true)
    (a7 : PySem.W.nsIn K mainGlobals "_law_made" = some (some (.ref f7)))
    (l7 : K.lookup f7 = some ⟨oc7, od7, .func (PySem.W.fnOf "_law_made" "_law_made" (defArgs s_law_made) (defBody s_law_made) (defScope s_law_made) .none kV7 dc7 pm7 an7 cd7 ct7), sl7⟩)
    (c7 : PySem.W.codeIn K cd7 "_law_made" = true)
    (k7 : PySem.W.keepIn K (.ref f7) = true)
    (a8 : PySem.W.nsIn K mainGlobals "_law_asks" = some (some (.ref f8)))
    (l8 : K.lookup f8 = some ⟨oc8, od8, .func (PySem.W.fnOf "_law_asks" "_law_asks" (defArgs s_law_asks) (defBody s_law_asks) (defScope s_law_asks) .none kV8 dc8 pm8 an8 cd8 ct8), sl8⟩)
    (c8 : PySem.W.codeIn K cd8 "_law_asks" = true)
    (k8 : PySem.W.keepIn K (.ref f8) = true)
    (a9 : PySem.W.nsIn K mainGlobals "_law_leaves" = some (some (.ref f9)))
    (l9 : K.lookup f9 = some ⟨oc9, od9, .func (PySem.W.fnOf "_law_leaves" "_law_leaves" (defArgs s_law_leaves) (defBody s_law_leaves) (defScope s_law_leaves) .none kV9 dc9 pm9 an9 cd9 ct9), sl9⟩)
    (c9 : PySem.W.codeIn K cd9 "_law_leaves" = true)
    (k9 : PySem.W.keepIn K (.ref f9) = true)
    (a10 : PySem.W.nsIn K mainGlobals "_law_votes" = some (some (.ref f10)))
    (l10 : K.lookup f10 = some ⟨oc10, od10, .func (PySem.W.fnOf "_law_votes" "_law_votes" (defArgs s_law_votes) (defBody s_law_votes) (defScope s_law_votes) .none kV10 dc10 pm10 an10 cd10 ct10), sl10⟩)
    (c10 : PySem.W.codeIn K cd10 "_law_votes" = true)
    (k10 : PySem.W.keepIn K (.ref f10) = true)
    (a11 : PySem.W.nsIn K mainGlobals "_law_asked_back" = some (some (.ref f11)))
    (l11 : K.lookup f11 = some ⟨oc11, od11, .func (PySem.W.fnOf "_law_asked_back" "_law_asked_back" (defArgs s_law_asked_back) (defBody s_law_asked_back) (defScope s_law_asked_back) .none kV11 dc11 pm11 an11 cd11 ct11), sl11⟩)
    (c11 : PySem.W.codeIn K cd11 "_law_asked_back" = true)
    (k11 : PySem.W.keepIn K (.ref f11) = true)
    (a12 : PySem.W.nsIn K mainGlobals "_law_deed" = some (some (.ref f12)))
    (l12 : K.lookup f12 = some ⟨oc12, od12, .func (PySem.W.fnOf "_law_deed" "_law_deed" (defArgs s_law_deed) (defBody s_law_deed) (defScope s_law_deed) .none kV12 dc12 pm12 an12 cd12 ct12), sl12⟩)
    (c12 : PySem.W.codeIn K cd12 "_law_deed" = true)
    (k12 : PySem.W.keepIn K (.ref f12) = true)
    (a13 : PySem.W.nsIn K mainGlobals "_law_cells" = some (some (.ref f13)))
    (l13 : K.lookup f13 = some ⟨oc13, od13, .func (PySem.W.fnOf "_law_cells" "_law_cells" (defArgs s_law_cells) (defBody s_law_cells) (defScope s_law_cells) .none kV13 dc13 pm13 an13 cd13 ct13), sl13⟩)
    (c13 : PySem.W.codeIn K cd13 "_law_cells" = true)
    (k13 : PySem.W.keepIn K (.ref f13) = true)
    (a14 : PySem.W.nsIn K mainGlobals "law" = some (some (.ref f14)))
    (l14 : K.lookup f14 = some ⟨oc14, od14, .func (PySem.W.fnOf "law" "law" (defArgs s_law) (defBody s_law) (defScope s_law) .none kV14 dc14 pm14 an14 cd14 ct14), sl14⟩)
    (c14 : PySem.W.codeIn K cd14 "law" = true)
    (k14 : PySem.W.keepIn K (.ref f14) = true)
    (a15 : PySem.W.findIn K (.ref C_Seat) "__init__" = some (some (.ref f15)))
    (i15 : PySem.W.isFn K (.ref f15) = true)
    (l15 : K.lookup f15 = some ⟨oc15, od15, .func (PySem.W.fnOf "__init__" "Seat.__init__" (defArgs s_Seat__init) (defBody s_Seat__init) (defScope s_Seat__init) .none kV15 dc15 pm15 an15 cd15 ct15), sl15⟩)
    (c15 : PySem.W.codeIn K cd15 "Seat.__init__" = true)
    (k15 : PySem.W.keepIn K (.ref f15) = true)
    (a16 : PySem.W.findIn K (.ref C_Desk) "__init__" = some (some (.ref f16)))
    (i16 : PySem.W.isFn K (.ref f16) = true)
    (l16 : K.lookup f16 = some ⟨oc16, od16, .func (PySem.W.fnOf "__init__" "Desk.__init__" (defArgs s_Desk__init) (defBody s_Desk__init) (defScope s_Desk__init) .none kV16 dc16 pm16 an16 cd16 ct16), sl16⟩)
    (c16 : PySem.W.codeIn K cd16 "Desk.__init__" = true)
    (k16 : PySem.W.keepIn K (.ref f16) = true)
    (a17 : PySem.W.findIn K (.ref C_Voter) "free_set" = some (some (.ref f17)))
    (i17 : PySem.W.isFn K (.ref f17) = true)
    (l17 : K.lookup f17 = some ⟨oc17, od17, .func (PySem.W.fnOf "free_set" "Voter.free_set" (defArgs s_Voter_free_set) (defBody s_Voter_free_set) (defScope s_Voter_free_set) .none kV17 dc17 pm17 an17 cd17 ct17), sl17⟩)
    (c17 : PySem.W.codeIn K cd17 "Voter.free_set" = true)
    (k17 : PySem.W.keepIn K (.ref f17) = true)
    (a18 : PySem.W.findIn K (.ref C_Voter) "_want" = some (some (.ref f18)))
    (i18 : PySem.W.isFn K (.ref f18) = true)
    (l18 : K.lookup f18 = some ⟨oc18, od18, .func (PySem.W.fnOf "_want" "Voter._want" (defArgs s_Voter_want) (defBody s_Voter_want) (defScope s_Voter_want) .none kV18 dc18 pm18 an18 cd18 ct18), sl18⟩)
    (c18 : PySem.W.codeIn K cd18 "Voter._want" = true)
    (k18 : PySem.W.keepIn K (.ref f18) = true)
    (a19 : PySem.W.findIn K (.ref C_Voter) "_done" = some (some (.ref f19)))
    (i19 : PySem.W.isFn K (.ref f19) = true)
    (l19 : K.lookup f19 = some ⟨oc19, od19, .func (PySem.W.fnOf "_done" "Voter._done" (defArgs s_Voter_done) (defBody s_Voter_done) (defScope s_Voter_done) .none kV19 dc19 pm19 an19 cd19 ct19), sl19⟩)
    (c19 : PySem.W.codeIn K cd19 "Voter._done" = true)
    (k19 : PySem.W.keepIn K (.ref f19) = true)
    (a20 : PySem.W.findIn K (.ref C_Voter) "_be_out" = some (some (.ref f20)))
    (i20 : PySem.W.isFn K (.ref f20) = true)
    (l20 : K.lookup f20 = some ⟨oc20, od20, .func (PySem.W.fnOf "_be_out" "Voter._be_out" (defArgs s_Voter_be_out) (defBody s_Voter_be_out) (defScope s_Voter_be_out) .none kV20 dc20 pm20 an20 cd20 ct20), sl20⟩)
    (c20 : PySem.W.codeIn K cd20 "Voter._be_out" = true)
    (k20 : PySem.W.keepIn K (.ref f20) = true)
    (a21 : PySem.W.findIn K (.ref C_Voter) "leave" = some (some (.ref f21)))
    (i21 : PySem.W.isFn K (.ref f21) = true)
    (l21 : K.lookup f21 = some ⟨oc21, od21, .func (PySem.W.fnOf "leave" "Voter.leave" (defArgs s_Voter_leave) (defBody s_Voter_leave) (defScope s_Voter_leave) .none kV21 dc21 pm21 an21 cd21 ct21), sl21⟩)
    (c21 : PySem.W.codeIn K cd21 "Voter.leave" = true)
    (k21 : PySem.W.keepIn K (.ref f21) = true)
    (a22 : PySem.W.findIn K (.ref C_Voter) "ask" = some (some (.ref f22)))
    (i22 : PySem.W.isFn K (.ref f22) = true)
    (l22 : K.lookup f22 = some ⟨oc22, od22, .func (PySem.W.fnOf "ask" "Voter.ask" (defArgs s_Voter_ask) (defBody s_Voter_ask) (defScope s_Voter_ask) .none kV22 dc22 pm22 an22 cd22 ct22), sl22⟩)
    (c22 : PySem.W.codeIn K cd22 "Voter.ask" = true)
    (k22 : PySem.W.keepIn K (.ref f22) = true)
    (a23 : PySem.W.findIn K (.ref C_Voter) "_hear_vote" = some (some (.ref f23)))
    (i23 : PySem.W.isFn K (.ref f23) = true)
    (l23 : K.lookup f23 = some ⟨oc23, od23, .func (PySem.W.fnOf "_hear_vote" "Voter._hear_vote" (defArgs s_Voter_hear_vote) (defBody s_Voter_hear_vote) (defScope s_Voter_hear_vote) .none kV23 dc23 pm23 an23 cd23 ct23), sl23⟩)
    (c23 : PySem.W.codeIn K cd23 "Voter._hear_vote" = true)
    (k23 : PySem.W.keepIn K (.ref f23) = true)
    (a24 : PySem.W.findIn K (.ref C_Voter) "_hear_back" = some (some (.ref f24)))
    (i24 : PySem.W.isFn K (.ref f24) = true)
    (l24 : K.lookup f24 = some ⟨oc24, od24, .func (PySem.W.fnOf "_hear_back" "Voter._hear_back" (defArgs s_Voter_hear_back) (defBody s_Voter_hear_back) (defScope s_Voter_hear_back) .none kV24 dc24 pm24 an24 cd24 ct24), sl24⟩)
    (c24 : PySem.W.codeIn K cd24 "Voter._hear_back" = true)
    (k24 : PySem.W.keepIn K (.ref f24) = true)
    (a25 : PySem.W.findIn K (.ref C_Voter) "hear" = some (some (.ref f25)))
    (i25 : PySem.W.isFn K (.ref f25) = true)
    (l25 : K.lookup f25 = some ⟨oc25, od25, .func (PySem.W.fnOf "hear" "Voter.hear" (defArgs s_Voter_hear) (defBody s_Voter_hear) (defScope s_Voter_hear) .none kV25 dc25 pm25 an25 cd25 ct25), sl25⟩)
    (c25 : PySem.W.codeIn K cd25 "Voter.hear" = true)
    (k25 : PySem.W.keepIn K (.ref f25) = true)
    (n_Voter_me : PySem.W.findIn K (.ref C_Voter) "me" = some none)
    (n_Voter_state : PySem.W.findIn K (.ref C_Voter) "state" = some none)
    (n_Voter_sits : PySem.W.findIn K (.ref C_Voter) "sits" = some none)
    (n_Voter_count : PySem.W.findIn K (.ref C_Voter) "count" = some none)
    (n_Voter_stamp : PySem.W.findIn K (.ref C_Voter) "stamp" = some none)
    (n_Voter_hand : PySem.W.findIn K (.ref C_Voter) "hand" = some none)
    (n_Voter_known : PySem.W.findIn K (.ref C_Voter) "known" = some none)
    (n_Voter_desk : PySem.W.findIn K (.ref C_Voter) "desk" = some none)
    (n_Voter__sets : PySem.W.findIn K (.ref C_Voter) "_sets" = some none)
    (n_Voter__first : PySem.W.findIn K (.ref C_Voter) "_first" = some none)
    (n_Voter__set : PySem.W.findIn K (.ref C_Voter) "_set" = some none)
    (n_Desk_holder : PySem.W.findIn K (.ref C_Desk) "holder" = some none)
    (n_Desk_queue : PySem.W.findIn K (.ref C_Desk) "queue" = some none)
    (n_Desk_called : PySem.W.findIn K (.ref C_Desk) "called" = some none)
    (i1 : PySem.W.findIn K (.ref C_Voter) "__init__" = some (some (.ref fI)))
    (i2 : PySem.W.isFn K (.ref fI) = true)
    (i3 : K.lookup fI = some ⟨ocI, odI, .func (PySem.W.ksFn "__init__" "Voter.__init__" (defArgs s_Voter__init) (defBody s_Voter__init) (defScope s_Voter__init) .none (.ref Dk) dcI pmI anI (.ref cda) ctI cc), oslI⟩)
    (ii4 : PySem.W.codeIn K (.ref cda) "Voter.__init__" = true)
    (ii5 : K.lookup cc = some ⟨clI, cldI, .cell (some (.ref C_Voter)), csl⟩)
    (ii6 : K.lookup cda = some ⟨ccl, cdd, .fields vs, ccs⟩)
    (w7 : vs[2]? = some (.str file tf))
    (w8 : ((P.main.file : Str) == file) = true)
    (w9 : PySem.W.clsIn K C_Voter = some cdD)
    (ii10 : PySem.W.nsIn K mainGlobals "super" = some none)
    (w11 : (P.main.scope.names.lookup ("super" : Str)).isSome = false)
    (ii12 : PySem.W.nsIn K cStatics "thirdparty.any" = some none)
    (w13 : PySem.W.mroIn K C_Voter (.ref C_Voter) = some true)
    (w14 : PySem.W.ks_superIn K C_Voter C_Voter "__init__" = some (some (.ref f15)))
    (ii15 : PySem.W.typeIn K (.ref f15) = some (.type "function"))
    (w16 : PySem.W.fnIn K f15 = true)
    (ii17 : PySem.W.nsIn K Dk "first" = some (some .none))
    (ii18 : PySem.W.nsIn K Dk "count" = some (some (.int 0 td)))
    (ik1 : PySem.W.findIn K (.ref C_Desk) "__init__" = some (some (.ref f16)))
    (ik2 : PySem.W.isFn K (.ref f16) = true)
    (w23 : PySem.W.specialIn K (.builtin "object.__class__") "__get__" = some (some (.builtin "getset_descriptor.__get__")))
    (w24 : PySem.W.takesIn K (.builtin "object.__class__") = some true)
    (n1B : PySem.W.nsIn K mainGlobals "Barred" = some (some (.ref CB)))
    (n4B : PySem.W.findIn K (.ref CB) "__init__" = some (some (.ref fB)))
    (n5B : PySem.W.typeIn K (.ref fB) = some (.type "function"))
    (n6B : K.lookup fB = some ⟨ocB, odB, .func (PySem.W.ksFn "__init__" "Barred.__init__" (defArgs s_Barred__init) (defBody s_Barred__init) (defScope s_Barred__init) .none kVB dcB pmB anB (.ref cdaB) ctB ccB), oslB⟩)
    (n7B : PySem.W.codeIn K (.ref cdaB) "Barred.__init__" = true)
    (n8B : K.lookup ccB = some ⟨clB, cldB, .cell (some (.ref CB)), cslB⟩)
    (n9B : K.lookup cdaB = some ⟨cclB, cddB, .fields vsB, ccsB⟩)
    (w30B : vsB[2]? = some (.str fileB tfB))
    (w31B : ((P.main.file : Str) == fileB) = true)
    (w32B : PySem.W.clsIn K CB = some cdDB)
    (n10B : K.lookup CB = some (excClassObj nmB qB CB NB bsB bmB true snB subB abB colB ddB k0B k1B k2B k3B k5B "ValueError.__new__"))
    (w33B : PySem.HandSPX.refsVE bmB = true)
    (n11B : PySem.W.findIn K (.ref CB) "__setattr__" = some (some (.builtin "object.__setattr__")))
    (n12B : PySem.W.subIn K (.ref CB) (.type "BaseException") = some true)
    (n13B : PySem.W.typeIn K (.ref CB) = some (.type "type"))
    (n14B : PySem.W.keepIn K (.ref CB) = true)
    (w34B : PySem.W.mroIn K CB (.ref CB) = some true)
    (w35B : PySem.W.ks_superIn K CB CB "__init__" = some (some (.builtin "ValueError.__init__")))
    (n15B : PySem.W.subIn K (.ref CB) (.type "ValueError") = some true)
    (n16B : PySem.W.findIn K (.ref CB) "seat" = some none)
    (n17B : PySem.W.findIn K (.ref CB) "__getattribute__" = some (some (.builtin "BaseException.__getattribute__")))
    (n18B : PySem.W.findIn K (.ref CB) "__getattr__" = some none)
    (n19B : PySem.W.hasDictIn K CB = true)
    (n20B : PySem.W.findIn K (.ref CB) "__class__" = some (some (.builtin "object.__class__")))
    (w36B : PySem.W.mroIn K CB (.type "object") = some true)
    (wex : PySem.W.exmOne K (.ref CB) (.ref CB) = some true)
    (b_len : PySem.W.nsIn K mainGlobals "len" = some none)
    (b_range : PySem.W.nsIn K mainGlobals "range" = some none)
    (b_tuple : PySem.W.nsIn K mainGlobals "tuple" = some none)
    (b_list : PySem.W.nsIn K mainGlobals "list" = some none)
    (b_isinstance : PySem.W.nsIn K mainGlobals "isinstance" = some none)
    (b_bool : PySem.W.nsIn K mainGlobals "bool" = some none)
    (b_sorted : PySem.W.nsIn K mainGlobals "sorted" = some none)
    (b_sum : PySem.W.nsIn K mainGlobals "sum" = some none)
    (b_int : PySem.W.nsIn K mainGlobals "int" = some none)
    (b_min : PySem.W.nsIn K mainGlobals "min" = some none)
    (b_any : PySem.W.nsIn K mainGlobals "any" = some none)
    (b_all : PySem.W.nsIn K mainGlobals "all" = some none)
    (b_max : PySem.W.nsIn K mainGlobals "max" = some none)
    (b_set : PySem.W.nsIn K mainGlobals "set" = some none) :
    ∃ fd : FuncData, (∀ (s : Shared) (v : Value), BindsTo s fd ⟨[v], []⟩ [("script", v)]) ∧
      ∀ base : Heap, K.In base → base.Ns mainGlobals mg → FnG P w K mg base CX0 7 fa fd ["script"] (spLaw K) := by
  have F_law_draws : Fn K mg "_law_draws" s_law_draws := fn_top X G a1 l1 c1 k1
  have F_law_same : Fn K mg "_law_same" s_law_same := fn_top X G a2 l2 c2 k2
  have F_law_cell_at : Fn K mg "_law_cell_at" s_law_cell_at := fn_top X G a3 l3 c3 k3
  have F_law_sets : Fn K mg "_law_sets" s_law_sets := fn_top X G a4 l4 c4 k4
  have F_law_refused : Fn K mg "_law_refused" s_law_refused := fn_top X G a5 l5 c5 k5
  have F_law_looks : Fn K mg "_law_looks" s_law_looks := fn_top X G a6 l6 c6 k6
  have F_law_made : Fn K mg "_law_made" s_law_made := fn_top X G a7 l7 c7 k7
  have F_law_asks : Fn K mg "_law_asks" s_law_asks := fn_top X G a8 l8 c8 k8
  have F_law_leaves : Fn K mg "_law_leaves" s_law_leaves := fn_top X G a9 l9 c9 k9
  have F_law_votes : Fn K mg "_law_votes" s_law_votes := fn_top X G a10 l10 c10 k10
  have F_law_asked_back : Fn K mg "_law_asked_back" s_law_asked_back := fn_top X G a11 l11 c11 k11
  have F_law_deed : Fn K mg "_law_deed" s_law_deed := fn_top X G a12 l12 c12 k12
  have F_law_cells : Fn K mg "_law_cells" s_law_cells := fn_top X G a13 l13 c13 k13
  have F_law : Fn K mg "law" s_law := fn_top X G a14 l14 c14 k14
  have M_Seat__init : Fm K C_Seat "__init__" "Seat.__init__" s_Seat__init := fm_top a15 i15 l15 c15 k15
  have M_Desk__init : Fm K C_Desk "__init__" "Desk.__init__" s_Desk__init := fm_top a16 i16 l16 c16 k16
  have M_Voter_free_set : Fm K C_Voter "free_set" "Voter.free_set" s_Voter_free_set := fm_top a17 i17 l17 c17 k17
  have M_Voter_want : Fm K C_Voter "_want" "Voter._want" s_Voter_want := fm_top a18 i18 l18 c18 k18
  have M_Voter_done : Fm K C_Voter "_done" "Voter._done" s_Voter_done := fm_top a19 i19 l19 c19 k19
  have M_Voter_be_out : Fm K C_Voter "_be_out" "Voter._be_out" s_Voter_be_out := fm_top a20 i20 l20 c20 k20
  have M_Voter_leave : Fm K C_Voter "leave" "Voter.leave" s_Voter_leave := fm_top a21 i21 l21 c21 k21
  have M_Voter_ask : Fm K C_Voter "ask" "Voter.ask" s_Voter_ask := fm_top a22 i22 l22 c22 k22
  have M_Voter_hear_vote : Fm K C_Voter "_hear_vote" "Voter._hear_vote" s_Voter_hear_vote := fm_top a23 i23 l23 c23 k23
  have M_Voter_hear_back : Fm K C_Voter "_hear_back" "Voter._hear_back" s_Voter_hear_back := fm_top a24 i24 l24 c24 k24
  have M_Voter_hear : Fm K C_Voter "hear" "Voter.hear" s_Voter_hear := fm_top a25 i25 l25 c25 k25
  have B_len := PySem.W.mg_none_of X G b_len
  have B_range := PySem.W.mg_none_of X G b_range
  have B_tuple := PySem.W.mg_none_of X G b_tuple
  have B_list := PySem.W.mg_none_of X G b_list
  have B_isinstance := PySem.W.mg_none_of X G b_isinstance
  have B_bool := PySem.W.mg_none_of X G b_bool
  have B_sorted := PySem.W.mg_none_of X G b_sorted
  have B_sum := PySem.W.mg_none_of X G b_sum
  have B_int := PySem.W.mg_none_of X G b_int
  have B_min := PySem.W.mg_none_of X G b_min
  have B_any := PySem.W.mg_none_of X G b_any
  have B_all := PySem.W.mg_none_of X G b_all
  have B_max := PySem.W.mg_none_of X G b_max
  have B_set := PySem.W.mg_none_of X G b_set
  have T_Voter : Cls K C_Voter := ⟨pg_Voter, hd_Voter, po_Voter, sa_Voter⟩
  have G_Voter := PySem.W.mg_of X G aC_Voter
  have T_Seat : Cls K C_Seat := ⟨pg_Seat, hd_Seat, po_Seat, sa_Seat⟩
  have G_Seat := PySem.W.mg_of X G aC_Seat
  have T_Desk : Cls K C_Desk := ⟨pg_Desk, hd_Desk, po_Desk, sa_Desk⟩
  have G_Desk := PySem.W.mg_of X G aC_Desk
  have S : VoT K C_Voter := ⟨T_Voter, n_Voter_me, n_Voter_state, n_Voter_sits, n_Voter_count, n_Voter_stamp, n_Voter_hand, n_Voter_known, n_Voter_desk, n_Voter__sets, n_Voter__first, n_Voter__set⟩
  have KT : DeskT K mg C_Desk := ⟨T_Desk, n_Desk_holder, n_Desk_queue, n_Desk_called, G_Desk⟩
  have T : BlV mg := ⟨⟨B_len, B_range, B_tuple, B_list, B_isinstance, B_bool, B_sorted, B_sum, B_int, B_min⟩, B_any, B_all, B_max, B_set⟩
  have XKB : XcK K CB "seat" := ⟨⟨⟨_, _, _, _, _, _, _, _, _, _, _, _, _, _, _, n10B, w33B⟩, n11B, n12B, n13B, n14B⟩, w34B, w35B, n15B, n16B⟩
  exact law_end F_law hfa (fun _ _ _ _ _ _ s v => .of_eq rfl) fun base _ _ => whole T S ⟨XKB, ⟨n17B, n18B, n12B, n19B⟩, ⟨by rw [w32B]; rfl, ⟨n17B, n18B, n12B, n19B, n20B, w23, w24, w36B⟩⟩, xt_B XKB n4B n5B n6B n7B n8B n9B w30B w31B w32B ii10 w11 ii12, PySem.W.mg_of X G n1B⟩ wex
    (made_of T S G_Voter mk_Voter kc_Voter (fun_mk l15 c15 k15) i1 i2 i3 ii4 ii5 ii6 w7 w8 w9 ii10 w11 ii12 w13 w14 ii15 w16 ii17 ii18 KT ⟨mk_Desk, ik1, ik2, kc_Desk⟩ (fun_mk l16 c16 k16))
    F_law_draws F_law_same F_law_cell_at F_law_sets F_law_refused F_law_looks F_law_made F_law_asks F_law_leaves F_law_votes F_law_asked_back F_law_deed F_law_cells F_law
    M_Voter_free_set M_Voter_want M_Voter_done M_Voter_be_out M_Voter_leave M_Voter_ask M_Voter_hear_vote M_Voter_hear_back M_Voter_hear
end G0
open PySem PySem.W PyProof.Rows in
set_option maxRecDepth 100000 in
set_option maxHeartbeats 0 in
set_option pp.maxSteps 20 in
theorem PySem.Challenge.cw_soleseat_k63_votes_in_hand_holds : PySem.Challenge.rw_soleseat_k63_votes_in_hand.Holds := by
  w_on; o_law; k_head; (case hw => w_witness2)
  k_fill
  refine G0.walk_ofGB (l := PySem.Challenge.rw_soleseat_k63_votes_in_hand) (n := 63) (k := 7) (x := "script") (sp := G0.spLaw) rfl (by decide) rfl ⟨rfl, by decide, by decide⟩ (fun w h Y => PySem.W.kIn_of Y) ?F (fun K H a ns hl bits _ hS => ⟨a, ns, rfl, hS, hl, bits, fun _ => rfl⟩)
  case F =>
    intro w mg fa h KX G hmg
    refine' G0.all_mk KX G hmg ?aC_Voter ?pg_Voter ?hd_Voter ?po_Voter ?sa_Voter ?mk_Voter ?kc_Voter ?aC_Seat ?pg_Seat ?hd_Seat ?po_Seat ?sa_Seat ?mk_Seat ?kc_Seat ?aC_Desk ?pg_Desk ?hd_Desk ?po_Desk ?sa_Desk ?mk_Desk ?kc_Desk ?a1 ?l1 ?c1 ?k1 ?a2 ?l2 ?c2 ?k2 ?a3 ?l3 ?c3 ?k3 ?a4 ?l4 ?c4 ?k4 ?a5 ?l5 ?c5 ?k5 ?a6 ?l6 ?c6 ?k6 ?a7 ?l7 ?c7 ?k7 ?a8 ?l8 ?c8 ?k8 ?a9 ?l9 ?c9 ?k9 ?a10 ?l10 ?c10 ?k10 ?a11 ?l11 ?c11 ?k11 ?a12 ?l12 ?c12 ?k12 ?a13 ?l13 ?c13 ?k13 ?a14 ?l14 ?c14 ?k14 ?a15 ?i15 ?l15 ?c15 ?k15 ?a16 ?i16 ?l16 ?c16 ?k16 ?a17 ?i17 ?l17 ?c17 ?k17 ?a18 ?i18 ?l18 ?c18 ?k18 ?a19 ?i19 ?l19 ?c19 ?k19 ?a20 ?i20 ?l20 ?c20 ?k20 ?a21 ?i21 ?l21 ?c21 ?k21 ?a22 ?i22 ?l22 ?c22 ?k22 ?a23 ?i23 ?l23 ?c23 ?k23 ?a24 ?i24 ?l24 ?c24 ?k24 ?a25 ?i25 ?l25 ?c25 ?k25 ?n_Voter_me ?n_Voter_state ?n_Voter_sits ?n_Voter_count ?n_Voter_stamp ?n_Voter_hand ?n_Voter_known ?n_Voter_desk ?n_Voter__sets ?n_Voter__first ?n_Voter__set ?n_Desk_holder ?n_Desk_queue ?n_Desk_called ?i1 ?i2 ?i3 ?ii4 ?ii5 ?ii6 ?w7 ?w8 ?w9 ?ii10 ?w11 ?ii12 ?w13 ?w14 ?ii15 ?w16 ?ii17 ?ii18 ?ik1 ?ik2 ?w23 ?w24 ?n1B ?n4B ?n5B ?n6B ?n7B ?n8B ?n9B ?w30B ?w31B ?w32B ?n10B ?w33B ?n11B ?n12B ?n13B ?n14B ?w34B ?w35B ?n15B ?n16B ?n17B ?n18B ?n19B ?n20B ?w36B ?wex ?b_len ?b_range ?b_tuple ?b_list ?b_isinstance ?b_bool ?b_sorted ?b_sum ?b_int ?b_min ?b_any ?b_all ?b_max ?b_set
    (case aC_Voter => k_is)
    (case pg_Voter => k_is)
    (case hd_Voter => k_is)
    (case po_Voter => k_is)
    (case sa_Voter => k_is)
    (case mk_Voter => k_is)
    (case kc_Voter => k_is)
    (case aC_Seat => k_is)
    (case pg_Seat => k_is)
    (case hd_Seat => k_is)
    (case po_Seat => k_is)
    (case sa_Seat => k_is)
    (case mk_Seat => k_is)
    (case kc_Seat => k_is)
    (case aC_Desk => k_is)
    (case pg_Desk => k_is)
    (case hd_Desk => k_is)
    (case po_Desk => k_is)
    (case sa_Desk => k_is)
    (case mk_Desk => k_is)
    (case kc_Desk => k_is)
    (case a1 => k_is)
    (case l1 => k_is)
    (case c1 => k_is)
    (case k1 => k_is)
    (case a2 => k_is)
    (case l2 => k_is)
    (case c2 => k_is)
    (case k2 => k_is)
    (case a3 => k_is)
    (case l3 => k_is)
    (case c3 => k_is)
    (case k3 => k_is)
    (case a4 => k_is)
    (case l4 => k_is)
    (case c4 => k_is)
    (case k4 => k_is)
    (case a5 => k_is)
    (case l5 => k_is)
    (case c5 => k_is)
    (case k5 => k_is)
    (case a6 => k_is)
    (case l6 => k_is)
    (case c6 => k_is)
    (case k6 => k_is)
    (case a7 => k_is)
    (case l7 => k_is)
    (case c7 => k_is)
    (case k7 => k_is)
    (case a8 => k_is)
    (case l8 => k_is)
    (case c8 => k_is)
    (case k8 => k_is)
    (case a9 => k_is)
    (case l9 => k_is)
    (case c9 => k_is)
    (case k9 => k_is)
    (case a10 => k_is)
    (case l10 => k_is)
    (case c10 => k_is)
    (case k10 => k_is)
    (case a11 => k_is)
    (case l11 => k_is)
    (case c11 => k_is)
    (case k11 => k_is)
    (case a12 => k_is)
    (case l12 => k_is)
    (case c12 => k_is)
    (case k12 => k_is)
    (case a13 => k_is)
    (case l13 => k_is)
    (case c13 => k_is)
    (case k13 => k_is)
    (case a14 => k_is)
    (case l14 => k_is)
    (case c14 => k_is)
    (case k14 => k_is)
    (case a15 => k_is)
    (case i15 => k_is)
    (case l15 => k_is)
    (case c15 => k_is)
    (case k15 => k_is)
    (case a16 => k_is)
    (case i16 => k_is)
    (case l16 => k_is)
    (case c16 => k_is)
    (case k16 => k_is)
    (case a17 => k_is)
    (case i17 => k_is)
    (case l17 => k_is)
    (case c17 => k_is)
    (case k17 => k_is)
    (case a18 => k_is)
    (case i18 => k_is)
    (case l18 => k_is)
    (case c18 => k_is)
    (case k18 => k_is)
    (case a19 => k_is)
    (case i19 => k_is)
    (case l19 => k_is)
    (case c19 => k_is)
    (case k19 => k_is)
    (case a20 => k_is)
    (case i20 => k_is)
    (case l20 => k_is)
    (case c20 => k_is)
    (case k20 => k_is)
    (case a21 => k_is)
    (case i21 => k_is)
    (case l21 => k_is)
    (case c21 => k_is)
    (case k21 => k_is)
    (case a22 => k_is)
    (case i22 => k_is)
    (case l22 => k_is)
    (case c22 => k_is)
    (case k22 => k_is)
    (case a23 => k_is)
    (case i23 => k_is)
    (case l23 => k_is)
    (case c23 => k_is)
    (case k23 => k_is)
    (case a24 => k_is)
    (case i24 => k_is)
    (case l24 => k_is)
    (case c24 => k_is)
    (case k24 => k_is)
    (case a25 => k_is)
    (case i25 => k_is)
    (case l25 => k_is)
    (case c25 => k_is)
    (case k25 => k_is)
    (case n_Voter_me => k_is)
    (case n_Voter_state => k_is)
    (case n_Voter_sits => k_is)
    (case n_Voter_count => k_is)
    (case n_Voter_stamp => k_is)
    (case n_Voter_hand => k_is)
    (case n_Voter_known => k_is)
    (case n_Voter_desk => k_is)
    (case n_Voter__sets => k_is)
    (case n_Voter__first => k_is)
    (case n_Voter__set => k_is)
    (case n_Desk_holder => k_is)
    (case n_Desk_queue => k_is)
    (case n_Desk_called => k_is)
    (case i1 => k_is)
    (case i2 => k_is)
    (case i3 => k_is)
    (case ii4 => k_is)
    (case ii5 => k_is)
    (case ii6 => k_is)
    (case w7 => first | k_is | exact rfl | decide +kernel)
    (case w8 => first | k_is | exact rfl | decide +kernel)
    (case w9 => first | k_is | exact rfl | decide +kernel)
    (case ii10 => k_is)
    (case w11 => first | k_is | exact rfl | decide +kernel)
    (case ii12 => k_is)
    (case w13 => first | k_is | exact rfl | decide +kernel)
    (case w14 => first | k_is | exact rfl | decide +kernel)
    (case ii15 => k_is)
    (case w16 => first | k_is | exact rfl | decide +kernel)
    (case ii17 => k_is)
    (case ii18 => k_is)
    (case ik1 => k_is)
    (case ik2 => k_is)
    (case w23 => first | k_is | exact rfl | decide +kernel)
    (case w24 => first | k_is | exact rfl | decide +kernel)
    (case n1B => k_is)
    (case n4B => k_is)
    (case n5B => k_is)
    (case n6B => k_is)
    (case n7B => k_is)
    (case n8B => k_is)
    (case n9B => k_is)
    (case w30B => first | k_is | exact rfl | decide +kernel)
    (case w31B => first | k_is | exact rfl | decide +kernel)
    (case w32B => first | k_is | exact rfl | decide +kernel)
    (case n10B => k_is)
    (case w33B => first | k_is | exact rfl | decide +kernel)
    (case n11B => k_is)
    (case n12B => k_is)
    (case n13B => k_is)
    (case n14B => k_is)
    (case w34B => first | k_is | exact rfl | decide +kernel)
    (case w35B => first | k_is | exact rfl | decide +kernel)
    (case n15B => k_is)
    (case n16B => k_is)
    (case n17B => k_is)
    (case n18B => k_is)
    (case n19B => k_is)
    (case n20B => k_is)
    (case w36B => first | k_is | exact rfl | decide +kernel)
    (case wex => first | k_is | exact rfl | decide +kernel)
    (case b_len => k_is)
    (case b_range => k_is)
    (case b_tuple => k_is)
    (case b_list => k_is)
    (case b_isinstance => k_is)
    (case b_bool => k_is)
    (case b_sorted => k_is)
    (case b_sum => k_is)
    (case b_int => k_is)
    (case b_min => k_is)
    (case b_any => k_is)
    (case b_all => k_is)
    (case b_max => k_is)
    (case b_set => k_is)
#print axioms PySem.Challenge.cw_soleseat_k63_votes_in_hand_holds
namespace G0

end G0
