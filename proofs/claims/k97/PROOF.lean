import PyProof.Rows.All
import Wide.All
import OpenK.AllK
import Wide.FinOn
import HandS.ForMost
import HandS.Wide
import HandS.Conv
import HandS.TupAny
import HandS.Deep
import HandS.Steps
import HandS.NoneIn
import HandS.IsInst
import HandS.More
import HandS.Defaults
import HandS.Small
import HandS.TupLe
import HandS.TupSets
import HandS.EndBits
import HandS.Nested
import HandS.ExcInit
import HandS.ExcSuper
import HandS.ClsMeth
import KE.KSuper
import KE.KExcSuper
import HandS.IsInst
import HandS.MakeKwOnly
import HandS.DictComp
import HandS.SortInts
import HandS.Conv
import HandS.More
import HandS.Wide
import HandS.Deep
import HandS.Style
import HandS.WideBits
import HandS.Dict
import PySem.Challenge.RW_soleseat_k97_a_key_made_anew
set_option Elab.async false
set_option maxRecDepth 100000
set_option maxHeartbeats 1000000
set_option linter.all false
/-! Calls where nothing is under repr around: the layer's defs, with one premise more (no guard around). -/
namespace G0
open PySem PySem.Spec PyProof.Rows L2
structure FnG (P : Program) (w : World) (K : PySem.W.Frag) (mg : Str → Option Value) (base : Heap) (CX : CXT)
    (k : Nat) (f : Addr) (fd : FuncData) (ps : List Str) (sp : Sp) : Prop where
  args : ∀ zs G R W, sp zs G R W → zs.length = ps.length
  runs : ∀ (B : Around) (around : List Env) (t : Shared) (G : Hp) (given : Args) (bound : List Value) (zs : List V) (R : VK) (W : XK),
    B.guards = some [] → Room k B → Env0 P w K mg base B around t G →
    BindsTo t fd given (ps.zip bound) → Vals zs bound → sp zs G R W →
    codeAny (model P w) B (.call (.ref f) given) (CR CX around P w G t R W) t
theorem FnG.of {P : Program} {w : World} {K : PySem.W.Frag} {mg : Str → Option Value} {base : Heap} {CX : CXT}
    {k : Nat} {f : Addr} {fd : FuncData} {ps : List Str} {sp : Sp} (F : FnOk P w K mg base CX k f fd ps sp) :
    FnG P w K mg base CX k f fd ps sp :=
  ⟨F.len, fun B around t G given bound zs R W _ hr => F.run B around t G given bound zs R W hr⟩
theorem FnG.mono {P : Program} {w : World} {K : PySem.W.Frag} {mg : Str → Option Value} {base : Heap} {CX : CXT}
    {j k : Nat} {f : Addr} {fd : FuncData} {ps : List Str} {sp : Sp} (F : FnG P w K mg base CX j f fd ps sp) (h : j ≤ k) :
    FnG P w K mg base CX k f fd ps sp :=
  ⟨F.args, fun B around t G given bound zs R W hg hr => F.runs B around t G given bound zs R W hg (hr.mono h)⟩
section
variable {X : Cx} {CX : CXT} {k : Nat} {f : Addr} {fd : FuncData} {ps : List Str} {sp : Sp}
  {dvs : List V} {ds : List Value} {E : XK} {x : Str} {p pos : Pos} {e : Expr} {es : List Expr} {t : TA}
theorem goes {pins : List (Addr × Obj)} {σ : L2.St} {H : Hp} {s : Shared} {Q : VK} {us : List Value} {vs : List V}
    (F : FnG X.prog X.w X.K X.mg X.base CX k f fd ps sp) (free : X.A.guards = some []) (hr : Room k X.A)
    (hb : Binds X.K fd ps ds) (hd : Vals dvs ds) (hx : Passes CX X E)
    (I : Inv X pins σ H s) (r : Vals vs us) (h : sp (vs ++ dvs) H Q E) :
    wpAny (model X.prog X.w) X.A (call (.ref f) us) (EP X pins σ Q) X.xe s := by
  have both : Vals (vs ++ dvs) (us ++ ds) := r.append hd
  have many : (us ++ ds).length = ps.length := both.length.symm.trans (F.args _ _ _ _ h)
  have it := F.runs X.A X.stack s H ⟨us, []⟩ (us ++ ds) (vs ++ dvs) Q E free hr I.env0 (hb s us I.kIn many) both h
  refine wpAny_call (codeAny_mono it fun out s' told => ?_)
  match out, told with
  | .error e, told => exact hx pins σ H s e s' I told
  | .ok (.ret u), told => exact I.after told
  | .ok .next, told => exact told.elim
  | .ok .brk, told => exact told.elim
  | .ok .cont, told => exact told.elim
theorem pe_callG (F : FnG X.prog X.w X.K X.mg X.base CX k f fd ps sp) (free : X.A.guards = some []) (hr : Room k X.A)
    (hg : Gl X x) (hm : X.mg x = some (.ref f)) (hk : PySem.W.keepIn X.K (.ref f) = true)
    (hb : Binds X.K fd ps ds) (hd : Vals dvs ds) (hx : Passes CX X E) (ha : PA X (e :: es) t)
    (n1 : (x == ("__debug__" : Str)) = false := by decide)
    (n2 : starEach (e :: es) X.env = (false, eval e X.env) :: starEach es X.env := by rfl)
    (n3 : (backTo pos (starEach es X.env)).any (·.1) = false := by rfl) :
    PE X (.Call (.Name x p) (e :: es) [] pos) (tCall sp dvs E t) :=
  ⟨fun pins s σ H Q I h => wpAny_Call_Name_kw (ld_glob I hg hm
    (PySem.W.callWith_K (h₀ := X.base) I.ok.mod.kin hk
      (thn (ha.run pos pins s σ H _ I h) fun us s1 ⟨vs, H1, I1, r, q⟩ =>
        ⟨I1.kIn, goes F free hr hb hd hx I1 r q⟩) n2 n3) n1)⟩
end
/-- a def's body, where nothing is under repr -/
theorem fnG_of {CX : CXT} {P : Program} {w : World} {K : PySem.W.Frag} {mg : Str → Option Value} {base : Heap} {k : Nat}
    {f : Addr} {name qual : Str} {params : Arguments} {body : List Stmt} {scope : Scope} {dV kV doc pm cdv ct oc : Value}
    {an od : Option Addr} {osl : Array (Option Value)} {N ps : List Str} {sp : Sp}
    (lk : K.lookup f = some ⟨oc, od, .func (PySem.W.fnOf name qual params body scope dV kV doc pm an cdv ct), osl⟩)
    (coded : PySem.W.codeIn K cdv qual = true) (S : FnScope N ps scope)
    (len : ∀ zs G R W, sp zs G R W → zs.length = ps.length)
    (inner : ∀ (B : Around) (around : List Env) (t : Shared) (G : Hp) (zs : List V) (R : VK) (W : XK), B.guards = some [] →
      Room k (B.deeper (envOfC qual scope t.heap.objs.size f cdv)) → sp zs G R W →
      ∃ tb, PSs (cxOf CX P w K mg base N qual scope f cdv B around t G W) body tb ∧
        tb { nx := fun _ G' => R .non G', rt := R } (start N zs) G) :
    FnG P w K mg base CX (k + 1) f (PySem.W.fnOf name qual params body scope dV kV doc pm an cdv ct) ps sp := by
  refine ⟨len, fun B around t G given bound zs R W free room e0 bd rel asked => ?_⟩
  have many := len _ _ _ _ asked
  have KX : K.In t.heap := e0.mod.kin.keeps fun b o z => (e0.bs b o z).1
  have lim : t.heap.NoLimit := e0.mod.nolimit.keeps fun b o z => (e0.bs b o z).1
  have kinds : ∀ y ∈ ps.zip bound, scope.names.lookup y.1 = some .local ∨
      (scope.names.lookup y.1 = some .cell ∧ ((cellsFrom (t.heap.objs.size + 1) scope.names []).lookup y.1).isSome = true) := by
    intro y hy
    cases S.par y.1 (List.of_mem_zip hy).1 with
    | inl q => exact .inl q
    | inr q => exact .inr ⟨q, PySem.W.cellsFrom_some _ _ _ (.inl q)⟩
  refine codeAny_call_function room.depth (KX _ _ lk) rfl S.co S.gen rfl (PySem.W.codeRec_of KX coded) (bd _ _ _ _ ?_)
  refine wpAny_newFunctionEnv_cells S.kind kinds fun env same t1 made => ?_
  subst same
  refine ⟨lim.keeps made.toInCall.keep, codeAny_func ?_⟩
  obtain ⟨tb, derived, holds⟩ := inner B around t G zs R W free (room.deeper _) asked
  have J : Inv (cxOf CX P w K mg base N qual scope f cdv B around t G W) [] (start N zs) G t1 :=
    inv_start S room.hd e0 many rel made
  refine wpAny_mono (derived.run [] t1 (start N zs) G _ J holds) (fun fl t' told => ?_) fun e t' told => told
  match fl, told with
  | .ret u, ⟨v, σ', G', J', rv, q⟩ => exact ⟨v, G', J'.os, J'.bare, J'.base, J'.hok, rv, q⟩
  | .next, ⟨σ', G', J', q⟩ => exact ⟨V.non, G', J'.os, J'.bare, J'.base, J'.hok, (rfl : Value.none = Value.none), q⟩
  | .brk, ⟨_, _, _, q⟩ => exact q.elim
  | .cont, ⟨_, _, _, q⟩ => exact q.elim
theorem okG {P : Program} {w : World} {K : PySem.W.Frag} {mg : Str → Option Value} {base : Heap} {x qual : Str} {st : Stmt}
    {f : Addr} {fd : FuncData} {N ps : List Str} {k : Nat} {sp : Sp} (F : Fun K x qual st f fd) (S : FnScope N ps (defScope st))
    (len : ∀ zs G R W, sp zs G R W → zs.length = ps.length)
    (inner : ∀ (cdv : Value) (B : Around) (around : List Env) (t : Shared) (G : Hp) (zs : List V) (R : VK) (W : XK), B.guards = some [] →
      Room k (B.deeper (envOfC qual (defScope st) t.heap.objs.size f cdv)) → sp zs G R W →
      ∃ tb, PSs (cxOf CX0 P w K mg base N qual (defScope st) f cdv B around t G W).nox (defBody st) tb ∧
        tb { nx := fun _ G' => R .non G', rt := R } (start N zs) G) :
    FnG P w K mg base CX0 (k + 1) f fd ps sp := by
  obtain ⟨oc, od, kV, doc, pm, an, cdv, ct, osl, rfl, lk, coded⟩ := F.ex
  refine fnG_of lk coded S len fun B around t G zs R W free room asked => ?_
  obtain ⟨tb, derived, holds⟩ := inner cdv B around t G zs R W free room asked
  exact ⟨tb, derived.nox, holds⟩
/-- the law's own call -/
theorem law_callG {P : Program} {w : World} {K : PySem.W.Frag} {mg mb : Str → Option Value} {CX : CXT} {k : Nat} {fa a : Addr}
    {fd : FuncData} {x : Str} {sp : Sp} {s₁ : Shared} {vs : List Value} {ns : List Int}
    (KX : K.In s₁.heap) (gl : s₁.heap.Ns mainGlobals mg) (bl : s₁.heap.Ns builtinsNs mb)
    (boot : ∀ x : Str, x ≠ "__name__" → mb x = bootBuiltins x) (lim : s₁.heap.NoLimit) (nogens : s₁.gens = #[])
    (at_ : s₁.heap.get? a = some { cls := .type "list", data := .seq vs.toArray }) (nums : IntsAre vs ns) (short : ns.length ≤ sizeLine)
    (room : Room k callerA)
    (F : ∀ base : Heap, K.In base → base.Ns mainGlobals mg → FnG P w K mg base CX k fa fd [x] sp)
    (bound : ∀ (s : Shared) (u : Value), BindsTo s fd ⟨[u], []⟩ [(x, u)])
    (asked : ∀ H : Hp, Only H → SqL K H a (ns.map V.int) → sp [.ref a] H (fun v _ => v = .bl true) fun _ _ _ => False)
    (never : ∀ H e s', CX [] H s₁ (fun _ _ _ => False) e s' → False) :
    codeAny (model P w) callerA (.call (.ref fa) ⟨[.ref a], []⟩)
      (fun r s' => r = .ok (.ret (.bool true)) ∧ OldK s₁.heap s'.heap ∧ s'.os = s₁.os ∧ AllBare s'.gens) s₁ := by
  have rel := vals_ints nums
  have many := nums.length
  have from_ : ∀ H : Hp, Only H → SqL K H a (ns.map V.int) → HOk P w H s₁.heap → (∀ b, H b ≠ none → b = a) →
      (H a ≠ none → K.lookup a = none) → codeAny (model P w) callerA (.call (.ref fa) ⟨[.ref a], []⟩)
        (fun r s' => r = .ok (.ret (.bool true)) ∧ OldK s₁.heap s'.heap ∧ s'.os = s₁.os ∧ AllBare s'.gens) s₁ := by
    intro H only seq fine one away
    have down : ∀ {b : Addr} {o : Obj}, s₁.heap.get? b = some o → H b = none →
      (hidT s₁.heap H).get? b = some o := fun e n => hidT_get e n
    have untracked : ∀ {b : Addr} {o : Obj}, s₁.heap.get? b = some o → (b = a → False) → H b = none := by
      intro b o _ n
      by_cases q : H b = none
      · exact q
      · exact (n (one b q)).elim
    have nodict : ∀ {b : Addr} {o : Obj} {es : Array DictEntry} {ep : Nat},
        s₁.heap.get? b = some o → o.data = .dict es ep → H b = none := by
      intro b o es ep e d
      refine untracked e fun q => ?_
      rw [q, at_] at e
      have e' := Option.some.inj e
      rw [← e'] at d
      have d' : Data.seq vs.toArray _ = Data.dict es ep := d
      exact absurd d' (fun h => by cases h)
    have spaces : ∀ {b : Addr} {m : Str → Option Value}, s₁.heap.Ns b m → (hidT s₁.heap H).Ns b m := by
      intro b m ns
      obtain ⟨o, es, ep, e, d, r⟩ := ns
      exact ⟨o, es, ep, down e (nodict e d), d, r⟩
    have written : K.In (hidT s₁.heap H) := by
      intro b o e
      refine down (KX b o e) ?_
      by_cases q : H b = none
      · exact q
      · have same := one b q
        rw [same] at q e
        rw [away q] at e
        cases e
    have md : Mod K mg (hidT s₁.heap H) := by
      obtain ⟨mc, h1, h2⟩ := lim
      exact ⟨written, spaces gl, ⟨mb, spaces bl, boot⟩, ⟨mc, spaces h1, h2⟩⟩
    have e0 : Env0 P w K mg (hidT s₁.heap H) callerA [] s₁ H :=
      ⟨rfl, md, fun b o e => of_hidT e, Nat.le_of_eq (hidT_size _ _), trivial,
        fun b hb => (List.not_mem_nil (show b ∈ ([] : List Addr) from hb)).elim, fine, .of_eq nogens⟩
    have it := (F _ written (spaces gl)).runs callerA [] s₁ H ⟨[.ref a], []⟩ [.ref a] [.ref a] _ _ rfl room e0
      (bound s₁ (.ref a)) (.cons rfl .nil) (asked H only seq)
    refine codeAny_mono it fun out s' told => ?_
    match out, told with
    | .error e, told => exact (never H e s' told).elim
    | .ok .next, told => exact told.elim
    | .ok .brk, told => exact told.elim
    | .ok .cont, told => exact told.elim
    | .ok (.ret u), ⟨v, H', os, bare, un, fine', r', q⟩ =>
      have q' : v = .bl true := q
      subst q'
      have u' : u = Value.bool true := r'
      subst u'
      refine ⟨rfl, OldK.of_keep fun b o e => ?_, os, bare⟩
      cases q : H b with
      | none => exact un.keep b o e q (fun z => (List.not_mem_nil (show b ∈ ([] : List Addr) from z)).elim) (List.not_mem_nil)
      | some u =>
        rcases only b with z | ⟨ob, xs, z⟩
        · have z1 := q.symm.trans z
          cases z1
        · have z' := un.frzs b ob _ z
          have e1 := (fine b _ z).1
          have e2 := (fine' b _ z').1
          exact e2.trans (e1.symm.trans e)
  cases known : K.lookup a with
  | some o =>
    have e := (KX a o known).symm.trans at_
    have e' := Option.some.inj e
    subst e'
    refine from_ (fun _ => none) (fun _ => .inl rfl) (.inr ⟨_, vs.toArray, _, known, rfl, rfl, rfl, ?_, ?_⟩)
      (fun b u z => by have z1 : (none : Option HO) = some u := z; cases z1) (fun b z => (z rfl).elim) fun z => (z rfl).elim
    · rw [List.size_toArray, many]; exact short
    · simpa using rel
  | none =>
    have self : (fun b => if b = a then some (HO.frz { cls := .type "list", data := .seq vs.toArray } (.lst (ns.map V.int))) else none) a
        = some (HO.frz { cls := .type "list", data := .seq vs.toArray } (.lst (ns.map V.int))) := if_pos rfl
    refine from_ (fun b => if b = a then some (HO.frz { cls := .type "list", data := .seq vs.toArray } (.lst (ns.map V.int))) else none)
      (fun b => ?_) (.inl (.inr ⟨_, self⟩)) (fun b u z => ?_) (fun b z => ?_) fun _ => known
    · by_cases same : b = a
      · exact .inr ⟨_, _, if_pos same⟩
      · exact .inl (if_neg same)
    · by_cases same : b = a
      · subst same
        have z' := Option.some.inj ((if_pos rfl).symm.trans z)
        subst z'
        exact ⟨at_, by rw [List.length_map]; exact short, vs, _, rel, at_⟩
      · have z1 := (if_neg same).symm.trans z
        cases z1
    · by_cases same : b = a
      · exact same
      · exact (z (if_neg same)).elim
theorem walk_ofG {l : PySem.W.OpenLaw} {n k : Nat} {q : Program} {loose : List Str} {XP : (Str → Option Value) → Heap → Prop}
    {YP : World → Heap → Prop} {d : DefRec} {K : Params → PySem.W.Frag} {sp : PySem.W.Frag → Sp} {x : Str}
    (hn : l.most = some n) (hn2 : n ≤ sizeLine) (hdf : d.params.defaults = []) (room : Room k callerA)
    (hY : ∀ (w : World) (h : Heap), YP w h → (K w.params).In h)
    (F : ∀ (w : World) (mg : Str → Option Value) (fa : Addr) (h : Heap), (K w.params).In h → h.Ns mainGlobals mg →
      mg d.name = some (.ref fa) → ∃ fd : FuncData, (∀ (s : Shared) (u : Value), BindsTo s fd ⟨[u], []⟩ [(x, u)]) ∧
        ∀ base : Heap, (K w.params).In base → base.Ns mainGlobals mg →
          FnG l.prog w (K w.params) mg base CX0 k fa fd [x] (sp (K w.params)))
    (asked : ∀ (K : PySem.W.Frag) (H : Hp) (a : Addr) (ns : List Int), ns.length ≤ n → Only H → SqL K H a (ns.map V.int) →
      sp K [.ref a] H (fun v _ => v = .bl true) fun _ _ _ => False) :
    PySem.W.WalkO q loose XP YP l.row.toRowW d [] (fun f vs => PySem.call f vs) := by
  refine Att.attach_call hn hdf fun w s₀ s₁ mg mb fa o pm cd doc a vs ns G Y ho hd hcd named obj nums few nogens => ?_
  have KX := hY w _ Y
  obtain ⟨fd, bound, all⟩ := F w mg fa _ KX G.T.g named
  exact law_callG KX G.T.g G.T.b G.T.builtins G.T.nolimit nogens obj nums (Nat.le_trans few hn2) room all bound
    (fun H only seq => asked _ H a ns few only seq) fun H e s' z => z
end G0
namespace G0
open PySem PySem.Spec PyProof.Rows L2
/-! ### a def of the module's top, by its name (no word of guards: for laws without repr) -/
def Fn (K : PySem.W.Frag) (mg : Str → Option Value) (x : Str) (st : Stmt) : Prop :=
  ∃ f fd, Fun K x x st f fd ∧ mg x = some (.ref f)
def Cal (P : Program) (w : World) (K : PySem.W.Frag) (mg : Str → Option Value) (base : Heap) (x : Str) (k : Nat) (ps : List Str) (sp : Sp) : Prop :=
  ∃ f fd, FnOk P w K mg base CX0 k f fd ps sp ∧ Binds K fd ps [] ∧ mg x = some (.ref f) ∧ PySem.W.keepIn K (.ref f) = true ∧
    ∃ oc od osl, K.lookup f = some ⟨oc, od, .func fd, osl⟩
theorem fn_top {K : PySem.W.Frag} {h : Heap} {mg : Str → Option Value} {x : Str} {st : Stmt} {f : Addr} {oc : Value} {od an : Option Addr}
    {osl : Array (Option Value)} {kV doc pm cdv ct : Value} (X : K.In h) (G : h.Ns mainGlobals mg)
    (a : PySem.W.nsIn K mainGlobals x = some (some (.ref f)))
    (l : K.lookup f = some ⟨oc, od, .func (PySem.W.fnOf x x (defArgs st) (defBody st) (defScope st) .none kV doc pm an cdv ct), osl⟩)
    (c : PySem.W.codeIn K cdv x = true) (k : PySem.W.keepIn K (.ref f) = true) : Fn K mg x st :=
  ⟨f, _, fun_mk l c k, PySem.W.mg_of X G a⟩
/-- a method of the class at C -/
def Fm (K : PySem.W.Frag) (C : Addr) (x qual : Str) (st : Stmt) : Prop := ∃ f fd, Fun K x qual st f fd ∧ Meth K C x f
theorem fm_top {K : PySem.W.Frag} {C : Addr} {x qual : Str} {st : Stmt} {f : Addr} {oc : Value} {od an : Option Addr}
    {osl : Array (Option Value)} {kV doc pm cdv ct : Value}
    (a : PySem.W.findIn K (.ref C) x = some (some (.ref f))) (i : PySem.W.isFn K (.ref f) = true)
    (l : K.lookup f = some ⟨oc, od, .func (PySem.W.fnOf x qual (defArgs st) (defBody st) (defScope st) .none kV doc pm an cdv ct), osl⟩)
    (c : PySem.W.codeIn K cdv qual = true) (k : PySem.W.keepIn K (.ref f) = true) : Fm K C x qual st :=
  ⟨f, _, fun_mk l c k, ⟨a, i, k⟩⟩
section
variable {P : Program} {w : World} {K : PySem.W.Frag} {mg : Str → Option Value} {base : Heap}
theorem cal_of {x : Str} {st : Stmt} {N ps : List Str} {k : Nat} {sp : Sp} (F : Fn K mg x st) (S : FnScope N ps (defScope st))
    (bd : ∀ (kV doc pm : Value) (an : Option Addr) (cdv ct : Value) (us : List Value), us.length = ps.length →
      bindArgs (PySem.W.fnOf x x (defArgs st) (defBody st) (defScope st) .none kV doc pm an cdv ct) ⟨us, []⟩ = pure (ps.zip us))
    (len : ∀ zs G R W, sp zs G R W → zs.length = ps.length)
    (inner : ∀ (f : Addr) (cdv : Value) (B : Around) (around : List Env) (t : Shared) (G : Hp) (zs : List V) (R : VK) (W : XK), True →
      Room k (B.deeper (envOfC x (defScope st) t.heap.objs.size f cdv)) → sp zs G R W →
      ∃ tb, PSs (cxOf CX0 P w K mg base N x (defScope st) f cdv B around t G W).nox (defBody st) tb ∧
        tb { nx := fun _ G' => R .non G', rt := R } (start N zs) G) :
    Cal P w K mg base x (k + 1) ps sp := by
  obtain ⟨f, fd, F, m⟩ := F
  obtain ⟨oc, od, kV, doc, pm, an, cdv, ct, osl, e, lk, c⟩ := id F.ex
  exact ⟨f, fd, F.ok S len (fun cdv B around t G zs R W room h => inner f cdv B around t G zs R W True.intro room h), F.binds bd, m, F.kp, oc, od, osl, lk⟩
theorem Cal.mono {x : Str} {j k : Nat} {ps : List Str} {sp : Sp} (C : Cal P w K mg base x j ps sp) (h : j ≤ k) : Cal P w K mg base x k ps sp := by
  obtain ⟨f, fd, F, r⟩ := C
  exact ⟨f, fd, F.mono h, r⟩
/-- the law itself, at the end -/
theorem law_end {st : Stmt} {k : Nat} {sp : Sp} {fa : Addr} (F : Fn K mg "law" st) (hm : mg "law" = some (.ref fa))
    (bt : ∀ (kV doc pm : Value) (an : Option Addr) (cdv ct : Value) (s : Shared) (v : Value),
      BindsTo s (PySem.W.fnOf "law" "law" (defArgs st) (defBody st) (defScope st) .none kV doc pm an cdv ct) ⟨[v], []⟩ [("script", v)])
    (C : ∀ base : Heap, K.In base → base.Ns mainGlobals mg → Cal P w K mg base "law" k ["script"] sp) :
    ∃ fd : FuncData, (∀ (s : Shared) (v : Value), BindsTo s fd ⟨[v], []⟩ [("script", v)]) ∧
      ∀ base : Heap, K.In base → base.Ns mainGlobals mg → FnG P w K mg base CX0 k fa fd ["script"] sp := by
  obtain ⟨f, fd, F, m⟩ := F
  obtain ⟨oc, od, kV, doc, pm, an, cdv, ct, osl, e, lk, c⟩ := id F.ex
  have ef := m.symm.trans hm
  cases ef
  refine ⟨fd, fun s v => by rw [e]; exact bt _ _ _ _ _ _ s v, fun base kin ns => ?_⟩
  obtain ⟨f', fd', G, _, m', _, oc', od', osl', lk'⟩ := C base kin ns
  have ef := m.symm.trans m'
  cases ef
  have ed := lk.symm.trans lk'
  cases ed
  exact FnG.of G
end
section
variable {X : Cx} {k : Nat} {ps : List Str} {sp : Sp} {x : Str} {p pos : Pos} {e : Expr} {es : List Expr} {t : TA}
theorem pe_cal (C : Cal X.prog X.w X.K X.mg X.base x k ps sp) (free : True) (hr : Room k X.A)
    (ha : PA X (e :: es) t) (hg : Gl X x := by rfl) (n1 : (x == ("__debug__" : Str)) = false := by decide)
    (n2 : starEach (e :: es) X.env = (false, eval e X.env) :: starEach es X.env := by rfl)
    (n3 : (backTo pos (starEach es X.env)).any (·.1) = false := by rfl) (hx : Passes CX0 X E0 := by exact pass0) :
    PE X (.Call (.Name x p) (e :: es) [] pos) (tCall sp [] E0 t) := by
  obtain ⟨f, fd, F, b, m, kp, _⟩ := C
  exact pe_call F hr hg m kp b .nil hx ha n1 n2 n3
/-! ### repr of data -/
def rRep (K : PySem.W.Frag) : List V → Hp → VK → Prop := fun xs H Q => ∃ (x : V) (d : PyData), xs = [x] ∧ Dp K H x d ∧
  d.showable = true ∧ d.hasDict = false ∧ d.depth ≤ 64 ∧ d.shown.length ≤ sizeLine ∧ Q (.str d.shown) H
theorem call_rep (free : X.A.guards = some []) (hu : X.A.units + 66 < cLine) : CallR X (.builtin "repr") (rRep X.K) := by
  intro pins s σ H xs us Q I r h
  obtain ⟨x, d, rfl, hd, hs, hn, h64, hz, q⟩ := h
  obtain ⟨u, rfl, rx⟩ := vals1 r
  have viaRef : ∀ (a : Addr), x = .ref a → wpAny (model X.prog X.w) X.A (call (.builtin "repr") [u]) (EP X pins σ Q) X.xe s := by
    intro a e
    subst e
    obtain rfl : u = Value.ref a := rx
    obtain ⟨as, rd⟩ := Dp.reads I d _ _ hd (rfl : RelV (.ref a) (.ref a))
    exact repr_of_reads' rd hs (PyData.noDict_hsm hn) free (by omega) (fun _ _ e => e)
      (fun h' w t kp => ⟨.str d.shown, H, I.kept (t' := t) kp, ⟨_, rfl⟩, q⟩) hz
  cases hd with
  | non =>
    obtain rfl : u = Value.none := rx
    exact PySem.P.repr_of_none ⟨.str _, H, I.tok _, ⟨_, rfl⟩, by simpa only [PyData.shown] using q⟩
  | bl b =>
    obtain rfl : u = Value.bool b := rx
    exact PySem.P.repr_of_bool ⟨.str _, H, I.tok _, ⟨_, rfl⟩, by simpa only [PyData.shown] using q⟩
  | int i =>
    obtain ⟨t, rfl⟩ := rx
    exact PySem.P.repr_of_int (by simpa [PyData.showable] using hs) ⟨.str _, H, I.tok _, ⟨_, rfl⟩, by simpa only [PyData.shown] using q⟩
  | str z =>
    obtain ⟨t, rfl⟩ := rx
    exact PySem.P.repr_of_str ⟨.str _, H, I.tok _, ⟨_, rfl⟩, by simpa only [PyData.shown] using q⟩ (by simpa only [PyData.shown] using hz)
  | lst _ _ => exact viaRef _ rfl
  | tup _ _ => exact viaRef _ rfl
/-! ### operators of several kinds in one -/
theorem u_eq (hu : X.A.units + 64 < cLine) : OpR X (compareOp .Eq) (fun x y H Q => rEq x y H Q ∨ rEqD X.K x y H Q) := op_eq.or (op_eqD hu)
theorem u_ne (hu : X.A.units + 64 < cLine) : OpR X (compareOp .NotEq) (fun x y H Q => rNe x y H Q ∨ rNeD X.K x y H Q) := op_ne.or (op_neD hu)
theorem u_in : OpR X (compareOp .In) (fun x y H Q => rIn X.K false x y H Q ∨ rInS x y H Q) := op_in_seq.or op_inS
theorem u_notin : OpR X (compareOp .NotIn) (fun x y H Q => rIn X.K true x y H Q ∨ rNotInS x y H Q) := op_notIn_seq.or op_notInS
end
theorem pe_fldK {X : Cx} {e : Expr} {f : Str} {pos : Pos} {ta : TE} (K : PySem.W.Frag) (ha : PE X e ta) (hK : X.K = K := by rfl)
    (hb : attributeBase e f X.env (eval e X.env) = eval e X.env := by rfl) : PE X (.Attribute e f pos) (tFld K ta f) := by
  subst hK
  exact pe_fld ha hb
/-! ### the written part named, for what stands within a comprehension -/
theorem op_K {X : Cx} {f : Value → Value → Sem Value} (r : PySem.W.Frag → R2) (K : PySem.W.Frag) (ho : OpR X f (r X.K)) (hK : X.K = K) : OpR X f (r K) := hK ▸ ho
theorem ix_K {X : Cx} (r : PySem.W.Frag → R2) (K : PySem.W.Frag) (ho : IxR X (r X.K)) (hK : X.K = K) : IxR X (r K) := hK ▸ ho
theorem call_K {X : Cx} {f : Value} (r : PySem.W.Frag → List V → Hp → VK → Prop) (K : PySem.W.Frag) (ho : CallR X f (r X.K)) (hK : X.K = K) : CallR X f (r K) := hK ▸ ho
section
variable {X : Cx} (K : PySem.W.Frag)
theorem u_inK (hK : X.K = K := by rfl) : OpR X (compareOp .In) (fun x y H Q => rIn K false x y H Q ∨ rInS x y H Q) := op_K (fun K x y H Q => rIn K false x y H Q ∨ rInS x y H Q) K u_in hK
theorem u_notinK (hK : X.K = K := by rfl) : OpR X (compareOp .NotIn) (fun x y H Q => rIn K true x y H Q ∨ rNotInS x y H Q) := op_K (fun K x y H Q => rIn K true x y H Q ∨ rNotInS x y H Q) K u_notin hK
theorem ix_listK (hK : X.K = K := by rfl) : IxR X (rIxL K) := ix_K rIxL K ix_list hK
theorem ix_tupK (hK : X.K = K := by rfl) : IxR X (rIxT K) := ix_K rIxT K ix_tup hK
theorem ix_seqK (hK : X.K = K := by rfl) : IxR X (rIx K) := ix_K rIx K ix_seq hK
theorem call_len_seqK (hK : X.K = K := by rfl) : CallR X (.builtin "len") (fun xs H Q => ∃ p ys, xs = [.ref p] ∧ (SqL K H p ys ∨ SqT K H p ys) ∧ Q (.int ys.length) H) :=
  call_K (fun K xs H Q => ∃ p ys, xs = [.ref p] ∧ (SqL K H p ys ∨ SqT K H p ys) ∧ Q (.int ys.length) H) K call_len_seq hK
end
/-! ### what changes: one list -/
/-- all that is tracked but p stays -/
def Chg (p : Addr) (H H' : Hp) : Prop := ∀ b o, b ≠ p → H b = some o → H' b = some o
theorem Chg.refl (p : Addr) (H : Hp) : Chg p H H := fun _ _ _ e => e
theorem Chg.trans {p : Addr} {H H1 H2 : Hp} (a : Chg p H H1) (b : Chg p H1 H2) : Chg p H H2 := fun c o n e => b c o n (a c o n e)
theorem Chg.self {p : Addr} {H : Hp} {o : HO} : Chg p H (upd H p o) := fun b u n e => by rw [upd_ne n]; exact e
theorem Chg.new {p q : Addr} {H H1 : Hp} {o : HO} (a : Chg p H H1) (n : H1 q = none) : Chg p H (upd H1 q o) := fun b u m e => by
  rw [upd_ne (ne_of_none (a b u m e) n)]; exact a b u m e
theorem Chg.same {p : Addr} {H H1 : Hp} (a : Same H H1) : Chg p H H1 := fun b o _ e => a b o e
theorem same_upd {H : Hp} {q : Addr} {o : HO} (n : H q = none) : Same H (upd H q o) := fun b u e => by
  rw [upd_ne (ne_of_none e n)]; exact e
/-! ### a law's draws: the pot -/
def PotL (n : Nat) (xs : List V) : Prop := ∃ a b c : Int, xs = [.int a, .int b, .int c] ∧ 0 ≤ a ∧ 0 ≤ b ∧ b < 2305843009213693951 ∧ 0 ≤ c ∧ c ≤ n
def PotAt (n : Nat) (H : Hp) (p : Addr) : Prop := ∃ xs, H p = some (.lst xs) ∧ PotL n xs
theorem PotL.mono {n m : Nat} {xs : List V} (h : PotL n xs) (le : n ≤ m) : PotL m xs := by
  obtain ⟨a, b, c, e, h1, h2, h3, h4, h5⟩ := h
  exact ⟨a, b, c, e, h1, h2, h3, h4, by omega⟩
theorem PotAt.mono {n m : Nat} {H : Hp} {p : Addr} (h : PotAt n H p) (le : n ≤ m) : PotAt m H p := by
  obtain ⟨xs, e, h⟩ := h
  exact ⟨xs, e, h.mono le⟩
theorem PotAt.keep {n : Nat} {H H' : Hp} {p : Addr} (h : PotAt n H p) (s : Same H H') : PotAt n H' p := by
  obtain ⟨xs, e, h⟩ := h
  exact ⟨xs, s _ _ e, h⟩
theorem PotAt.at {n : Nat} {H : Hp} {p : Addr} {xs : List V} (h : PotL n xs) : PotAt n (upd H p (.lst xs)) p := ⟨xs, upd_same, h⟩
end G0
/-! Wide powers, the law's own call with the script's bits told, len of an own object, sorted of a tuple of tuples of ints. -/
namespace G0
open PySem PySem.Spec PyProof.Rows L2
def CPowB (i j : Int) : Prop := 0 ≤ j ∧ (Builtin.Int.intBits i : Int) * j ≤ 2 ^ 27
theorem op_powB {X : Cx} : OpR X (binaryOp .Pow) (rI CPowB fun i j => .int (i ^ j.toNat)) := opI fun _ _ _ _ _ _ _ hc q => pow_int hc.1 hc.2 q
theorem walk_ofGB {l : PySem.W.OpenLaw} {n k : Nat} {q : Program} {loose : List Str} {XP : (Str → Option Value) → Heap → Prop}
    {YP : World → Heap → Prop} {d : DefRec} {K : Params → PySem.W.Frag} {sp : PySem.W.Frag → Sp} {x : Str}
    (hn : l.most = some n) (hn2 : n ≤ sizeLine) (hdf : d.params.defaults = []) (room : Room k callerA)
    (hY : ∀ (w : World) (h : Heap), YP w h → (K w.params).In h)
    (F : ∀ (w : World) (mg : Str → Option Value) (fa : Addr) (h : Heap), (K w.params).In h → h.Ns mainGlobals mg →
      mg d.name = some (.ref fa) → ∃ fd : FuncData, (∀ (s : Shared) (u : Value), BindsTo s fd ⟨[u], []⟩ [(x, u)]) ∧
        ∀ base : Heap, (K w.params).In base → base.Ns mainGlobals mg →
          FnG l.prog w (K w.params) mg base CX0 k fa fd [x] (sp (K w.params)))
    (asked : ∀ (K : PySem.W.Frag) (H : Hp) (a : Addr) (ns : List Int), ns.length ≤ n → (∀ z ∈ ns, Builtin.Int.intBits z ≤ 1048576) → Only H → SqL K H a (ns.map V.int) →
      sp K [.ref a] H (fun v _ => v = .bl true) fun _ _ _ => False) :
    PySem.W.WalkO q loose XP YP l.row.toRowW d [] (fun f vs => PySem.call f vs) := by
  refine Att.attach_callB hn hdf fun w s₀ s₁ mg mb fa o pm cd doc a vs ns G Y ho hd hcd named obj nums few bits nogens => ?_
  have KX := hY w _ Y
  obtain ⟨fd, bound, all⟩ := F w mg fa _ KX G.T.g named
  exact law_callG KX G.T.g G.T.b G.T.builtins G.T.nolimit nogens obj nums (Nat.le_trans few hn2) room all bound
    (fun H only seq => asked _ H a ns few bits only seq) fun H e s' z => z
/-! ### len of an own object -/
section
variable {X : Cx} {CX : CXT} {k : Nat} {f C : Addr} {fd : FuncData} {ps : List Str} {sp : Sp} {dvs : List V} {ds : List Value} {E : XK}
theorem run_fn1 {pins : List (Addr × Obj)} {σ : L2.St} {H : Hp} {s : Shared} {Q : VK} {us : List Value} {vs : List V}
    (F : FnOk X.prog X.w X.K X.mg X.base CX k f fd ps sp) (hr : Room (k + 1) X.A) (hb : Binds X.K fd ps ds) (hd : Vals dvs ds) (hx : Passes CX X E)
    (I : Inv X pins σ H s) (r : Vals vs us) (h : sp (vs ++ dvs) H Q E) : wpAny (model X.prog X.w) X.A.in1 (call (.ref f) us) (EP X pins σ Q) X.xe s := by
  have r2 : Vals (vs ++ dvs) (us ++ ds) := r.append hd
  have hl : (us ++ ds).length = ps.length := by rw [← r2.length]; exact F.len _ _ _ _ h
  refine wpAny_call (codeAny_mono (F.run X.A.in1 X.stack s H ⟨us, []⟩ (us ++ ds) (vs ++ dvs) Q E hr.in1 I.env0.in1 (hb s us I.kIn hl) r2 h) fun r s' hq => ?_)
  cases r with
  | error e => exact hx pins σ H s e s' I hq
  | ok fl =>
    cases fl with
    | ret u => exact I.after hq
    | next => exact False.elim hq
    | brk => exact False.elim hq
    | cont => exact False.elim hq
def rLenOwn (C : Addr) (sp : Sp) (E : XK) : List V → Hp → VK → Prop := fun xs H Q => ∃ (a dx : Addr) (fs : List (Str × V)), xs = [.ref a] ∧ H a = some (.ins C dx fs) ∧
  sp [.ref a] H (fun v H2 => ∃ n : Nat, v = .int n ∧ n ≤ sizeLine ∧ Q (.int n) H2) E
theorem call_lenOwn (hm : Meth X.K C "__len__" f) (F : FnOk X.prog X.w X.K X.mg X.base CX k f fd ps sp) (hr : Room (k + 1) X.A) (hb : Binds X.K fd ps []) (hx : Passes CX X E) :
    CallR X (.builtin "len") (rLenOwn C sp E) := by
  intro pins s σ H xs us Q I r h
  obtain ⟨a, dx, fs, rfl, e, q⟩ := h
  obtain ⟨u, rfl, ru⟩ := vals1 r
  obtain rfl : u = Value.ref a := ru
  obtain ⟨mA, O, _, _, _, _⟩ := ins_get I.hok e
  obtain ⟨od, ho, _⟩ := lookIn_ns O.ns
  have IA : PySem.W.InstAt s.heap a (PySem.W.instObj C dx) C (some od) := ⟨O.obj, rfl, rfl, ho⟩
  refine Calls.call_function_entry kind_len plain_len entry_len (args_len1 _) ?_
  unfold Builtin.«len»
  refine wpAny_bind (m := oneArg "len" _) (wpAny_pure ?_)
  refine wpAny_bind (m := callSpecial? (.ref a) (Str.ofString "__len__")) (PySem.W.special_fn I.kIn IA hm.at_ (beq_iff_eq.mp hm.fn)
    (wpAny_mono (run_fn1 (us := [.ref a]) (vs := [.ref a]) F hr hb .nil hx I (.cons rfl .nil) q) (fun r s' hr' => ?_) fun _ _ y => y))
  obtain ⟨v, H', I', rv, n, rfl, hn, q'⟩ := hr'
  obtain ⟨t, rfl⟩ := (show ∃ t, r = Value.int n t from rv)
  rw [sizeLine_eq] at hn
  refine wpAny_bind (wpAny_holding (wpAny_pure ?_))
  refine wpAny_bind (wpAny_letGo ?_)
  show wpAny _ _ (if ((n : Nat) : Int) < 0 then _ else _) _ _ _
  rw [if_neg (by omega)]
  show wpAny _ _ (if ((n : Nat) : Int) ≥ 2 ^ 63 then _ else _) _ _ _
  rw [if_neg (by omega)]
  exact wpAny_bind (wpAny_mkInt (wpAny_pure ⟨_, rfl, .int n, H', I'.tok _, ⟨_, rfl⟩, q'⟩))
end
/-! ### sorted of a tuple of tuples of ints -/
section
variable {prog : Program} {w : World} {A : Around} {E : Value → Shared → Prop} {s : Shared}
theorem collect_tup {l : Addr} {vs : List Value} {Q : List Value → Shared → Prop} (hl : IsTup s.heap l vs.toArray)
    (h : Q vs { s with heap := (s.heap.push (seqObj "list" #[] 0)).update s.heap.objs.size (Obj.mapSeq (· ++ vs.toArray)) }) (hsz : vs.length ≤ sizeLine) :
    wpAny (model prog w) A (collect (.ref l)) Q E s := by
  obtain ⟨o, ho, hc, n, hd⟩ := id hl
  unfold collect
  refine wpAny_bind (wpAny_runValue (codeAny_builtin entry_proto_collect' ?_))
  show wpAny _ _ (do again (.builtin "list.__iadd__" ⟨[← newList [], .ref l], []⟩)) _ _ s
  refine wpAny_bind (wpAny_newList (wpAny_pure ⟨Code.quiet_builtin _ (by decide +kernel), codeAny_builtin entry_list_iadd' ?_⟩))
  show wpAny _ _ (Builtin.List.listExtendWith (.ref s.heap.objs.size) (.ref l) (.ref s.heap.objs.size)) _ _ { s with heap := s.heap.push (seqObj "list" #[] 0) }
  unfold Builtin.List.listExtendWith
  have ho' : (s.heap.push (seqObj "list" #[] 0)).get? l = some o := Heap.get?_push_of_some _ ho
  refine wpAny_bind (wpAny_typeOf (T := "tuple") ⟨o, ho', hc⟩ ?_)
  have ht : (Value.type "tuple" == Value.type "tuple") = true := by rfl
  rw [if_pos (by rw [ht]; simp)]
  refine wpAny_bind (listItems_at ho' hd ?_)
  refine wpAny_bind (listItems_at (xs := #[]) (n := 0) (Heap.get?_push_size _ rfl) rfl ?_)
  rw [if_neg (by simp)]
  refine wpAny_bind (listUpdate_at (xs := #[]) (n := 0) (Heap.get?_push_size _ rfl) rfl ?_ (Nat.zero_le _) (by show (#[] ++ vs.toArray).size ≤ sizeLine + 1; simp only [Array.size_append, List.size_toArray, List.length_nil]; omega))
  refine wpAny_pure ?_
  show wpAny (model prog w) A (do
      let o ← load s.heap.objs.size
      match o.data with
      | .seq xs _ => pure xs.toList
      | _ => unsupported "internal:collect") Q E { s with heap := (s.heap.push (seqObj "list" #[] 0)).update s.heap.objs.size (Obj.mapSeq (· ++ vs.toArray)) }
  refine wpAny_bind (wpAny_load (get?_update_seq (Heap.get?_push_size _ rfl) _) ?_)
  show wpAny _ _ (pure ((#[] : Array Value) ++ vs.toArray).toList) Q E _
  rw [show ((#[] : Array Value) ++ vs.toArray).toList = vs by simp]
  exact wpAny_pure h
open TS in
theorem sorted_tupsT {l : Addr} {vs : List Value} {d : Nat} {B : Int} {Q : Value → Shared → Prop} (hl : IsTup s.heap l vs.toArray) (h64 : vs.length < 64) (hd : 1 ≤ d) (x : TupsOk s.heap d B vs)
    (h : ∀ out : Array Value, out.toList.Perm vs → out.toList.Pairwise (fun u v => code B (intsOf s.heap u) ≤ code B (intsOf s.heap v)) → Q (.ref (s.heap.objs.size + 1)) { s with heap := sortedAll s.heap vs out }) :
    wpAny (model prog w) A (call (.builtin "sorted") [.ref l]) Q E s := by
  refine Calls.call_function_entry kind_sorted plain_sorted entry_sorted (args_sorted1 _) ?_
  unfold Builtin.«sorted»
  refine wpAny_bind (m := checkCount "sorted" 1 1 _) (wpAny_pure ?_)
  refine wpAny_bind (collect_tup hl ?_ (by rw [sizeLine_eq]; omega))
  refine wpAny_bind (wpAny_newList ?_ (by rw [sizeLine_eq]; omega))
  have hsz : ((s.heap.push (seqObj "list" #[] 0)).update s.heap.objs.size (Obj.mapSeq (· ++ vs.toArray))).objs.size = s.heap.objs.size + 1 := by
    rw [Heap.size_update, size_push']
  have hoL : (((s.heap.push (seqObj "list" #[] 0)).update s.heap.objs.size (Obj.mapSeq (· ++ vs.toArray))).push (seqObj "list" vs.toArray 0)).get? (s.heap.objs.size + 1) = some (seqObj "list" vs.toArray 0) := by
    rw [← hsz]; exact Heap.get?_push_size _ rfl
  have keep : ∀ b o, s.heap.get? b = some o → o.cls = .type "tuple" → (((s.heap.push (seqObj "list" #[] 0)).update s.heap.objs.size (Obj.mapSeq (· ++ vs.toArray))).push (seqObj "list" vs.toArray 0)).get? b = some o := fun b o q _ => by
    have hlt : b < s.heap.objs.size := Heap.lt_size q
    rw [Heap.get?_push_ne _ _ _ (by rw [hsz]; exact Nat.ne_of_lt (Nat.lt_succ_of_lt hlt)), Heap.get?_update_ne _ _ _ _ (Nat.ne_of_lt hlt), Heap.get?_push_ne _ _ _ (Nat.ne_of_lt hlt)]
    exact q
  show wpAny _ _ _ _ _ { s with heap := ((s.heap.push (seqObj "list" #[] 0)).update s.heap.objs.size (Obj.mapSeq (· ++ vs.toArray))).push (seqObj "list" vs.toArray 0) }
  rw [hsz]
  refine wpAny_bind (wpAny_holding (wpAny_call_entry slot_list_sort ⟨_, hoL, rfl⟩ entry_list_sort (sort_tups hoL h64 hd (x.keeps keep) (fun v => code B (intsOf s.heap v)) (fun v hv ns t => ?_) fun out a1 a2 => ⟨_, rfl, ?_⟩) (args_list_sort _)))
  · obtain ⟨ns0, t0, _⟩ := x v hv
    have e : ns = ns0 := t.ints.symm.trans (t0.keeps keep).ints
    rw [e]
    show code B (intsOf s.heap v) = code B ns0
    rw [t0.ints]
  · exact wpAny_pure ⟨_, rfl, h out a1 a2⟩
end
def rSortUT (K : PySem.W.Frag) (d : Nat) (B : Int) : List V → Hp → VK → Prop := fun vs H Q => ∃ (a : Addr) (xs : List V), vs = [V.ref a] ∧ SqT K H a xs ∧ xs.length < 64 ∧ (∀ x ∈ xs, ∃ ns, TupI K H x ns ∧ ns.length = d ∧ TS.Bd B ns) ∧
  ∀ (ys : List V) (p : Addr), ys.Perm xs → ys.Pairwise (fun x y => ∀ n m, TupI K H x n → TupI K H y m → TS.code B n ≤ TS.code B m) → H p = none → Q (.ref p) (upd H p (.lst ys))
theorem cr_sortTT {X : Cx} {d : Nat} {B : Int} (hd : 1 ≤ d) : CallR X (.builtin "sorted") (rSortUT X.K d B) := by
  intro pins s σ H vs us Q I r h
  obtain ⟨a, xs, rfl, hs, h64, hx, q⟩ := h
  obtain ⟨its, rv, hl, hz⟩ := I.tuple hs
  rw [Vals.ref1 r]
  obtain ⟨e1, e2⟩ := bkV_refs rv fun x m => by
    obtain ⟨ns, ⟨t, e, _⟩, _⟩ := hx x m
    exact ⟨t, e⟩
  refine sorted_tupsT (d := d) (B := B) hl (by rw [← rv.length]; exact h64) hd (fun v hv => ?_) fun out h1 h2 => ?_
  · obtain ⟨t, rfl⟩ := e2 v hv
    have hm : V.ref t ∈ xs := by
      rw [e1]
      exact List.mem_map.mpr ⟨_, hv, rfl⟩
    obtain ⟨ns, ⟨t', e, ht⟩, hn, hb⟩ := hx _ hm
    cases e
    exact ⟨ns, tupI_raw I ht, hn, hb⟩
  · obtain ⟨ep, he'⟩ := PyProof.Rows.sortedAll_at s.heap its out
    have h3 : ∀ u ∈ out.toList, ∃ a, u = Value.ref a := fun u hu => e2 u (h1.mem_iff.mp hu)
    have hp : (out.toList.map bkV).Perm xs := by
      rw [e1]
      exact h1.map bkV
    have hlen : (out.toList.map bkV).length ≤ sizeLine := by
      rw [hp.length_eq]
      exact hz
    refine ⟨.ref _, upd H (s.heap.objs.size + 1) (.lst (out.toList.map bkV)), I.laid (t' := s.toks) (fun _ _ => PyProof.Rows.sortedAll_old) (Nat.le_succ _) ⟨hlen, out.toList, ep, bkV_vals h3, he'⟩, rfl, q _ _ hp ?_ (I.hok.fresh (Nat.le_succ _))⟩
    rw [List.pairwise_map]
    refine List.Pairwise.imp (fun {u v} huv n m hn hm => ?_) h2
    obtain ⟨t, et, ht⟩ := hn
    obtain ⟨t', et', ht'⟩ := hm
    have eu := bkV_ref et
    have ev := bkV_ref et'
    have i1 : TS.intsOf s.heap u = n := by
      rw [eu]
      exact (tupI_raw I ht).ints
    have i2 : TS.intsOf s.heap v = m := by
      rw [ev]
      exact (tupI_raw I ht').ints
    rw [← i1, ← i2]
    exact huv
end G0
namespace G0
open PySem PySem.Spec PyProof.Rows L2
/-! ### data -/
mutual
def noL : PyData → Bool
  | .none | .bool _ | .int _ | .str _ => true
  | .list _ | .dict _ => false
  | .tuple xs => noLs xs
def noLs : List PyData → Bool
  | [] => true
  | x :: xs => noL x && noLs xs
end
section
variable {K : PySem.W.Frag} {H H' : Hp} {p : Addr}
theorem sqt_chg (hp : ∃ xs, H p = some (.lst xs)) (c : Chg p H H') {a : Addr} {xs : List V} (h : SqT K H a xs) : SqT K H' a xs := by
  obtain ⟨ys, hp⟩ := hp
  rcases h with (h | ⟨o, h⟩) | h
  · exact .inl (.inl (c _ _ (ne_of h hp (by intro z; cases z)) h))
  · exact .inl (.inr ⟨o, c _ _ (ne_of h hp (by intro z; cases z)) h⟩)
  · exact .inr h
theorem sqt_same (c : Same H H') {a : Addr} {xs : List V} (h : SqT K H a xs) : SqT K H' a xs := by
  rcases h with (h | ⟨o, h⟩) | h
  · exact .inl (.inl (c _ _ h))
  · exact .inl (.inr ⟨o, c _ _ h⟩)
  · exact .inr h
mutual
theorem dp_chg (hp : ∃ xs, H p = some (.lst xs)) (c : Chg p H H') : ∀ (d : PyData) (v : V), noL d = true → Dp K H v d → Dp K H' v d
  | .none, _, _, h => by cases h; exact .non
  | .bool _, _, _, h => by cases h; exact .bl _
  | .int _, _, _, h => by cases h; exact .int _
  | .str _, _, _, h => by cases h; exact .str _
  | .list _, _, n, _ => by simp [noL] at n
  | .dict _, _, n, _ => by simp [noL] at n
  | .tuple ds, _, n, h => by
    cases h with
    | tup hs ha => exact .tup (sqt_chg hp c hs) (dps_chg hp c ds _ (by simpa [noL] using n) ha)
theorem dps_chg (hp : ∃ xs, H p = some (.lst xs)) (c : Chg p H H') : ∀ (ds : List PyData) (vs : List V), noLs ds = true → DpAll K H vs ds → DpAll K H' vs ds
  | [], _, _, h => by cases h; exact .nil
  | d :: ds, _, n, h => by
    simp only [noLs, Bool.and_eq_true] at n
    cases h with
    | cons h1 h2 => exact .cons (dp_chg hp c d _ n.1 h1) (dps_chg hp c ds _ n.2 h2)
end
mutual
theorem dp_same (c : Same H H') : ∀ (d : PyData) (v : V), Dp K H v d → Dp K H' v d
  | .none, _, h => by cases h; exact .non
  | .bool _, _, h => by cases h; exact .bl _
  | .int _, _, h => by cases h; exact .int _
  | .str _, _, h => by cases h; exact .str _
  | .list ds, _, h => by
    cases h with
    | lst hs ha => exact .lst (c.seq hs) (dps_same c ds _ ha)
  | .dict _, _, h => by cases h
  | .tuple ds, _, h => by
    cases h with
    | tup hs ha => exact .tup (sqt_same c hs) (dps_same c ds _ ha)
theorem dps_same (c : Same H H') : ∀ (ds : List PyData) (vs : List V), DpAll K H vs ds → DpAll K H' vs ds
  | [], _, h => by cases h; exact .nil
  | d :: ds, _, h => by
    cases h with
    | cons h1 h2 => exact .cons (dp_same c d _ h1) (dps_same c ds _ h2)
end
theorem dps_app {vs ws : List V} {ds es : List PyData} : DpAll K H vs ds → DpAll K H ws es → DpAll K H (vs ++ ws) (ds ++ es) := by
  intro h g
  match vs, ds, h with
  | [], [], _ => exact g
  | _ :: _, _ :: _, .cons h1 h2 => exact .cons h1 (dps_app h2 g)
theorem dps_len {vs : List V} {ds : List PyData} : DpAll K H vs ds → vs.length = ds.length := by
  intro h
  match vs, ds, h with
  | [], [], _ => rfl
  | _ :: _, _ :: _, .cons _ h2 => exact congrArg (· + 1) (dps_len h2)
end
theorem noLs_of : ∀ {ds : List PyData}, (∀ d ∈ ds, noL d = true) → noLs ds = true
  | [], _ => rfl
  | d :: ds, h => by
    simp only [noLs, Bool.and_eq_true]
    exact ⟨h d (List.mem_cons_self ..), noLs_of fun x hx => h x (List.mem_cons_of_mem _ hx)⟩
/-! ### things and letters -/
inductive Thing : Nat → PyData → Prop
  | num {n : Nat} {i : Int} : 0 ≤ i → i < 10 ^ 60 → Thing n (.int i)
  | tup {n : Nat} {ds : List PyData} : ds.length ≤ 2 → (∀ d ∈ ds, Thing n d) → Thing (n + 1) (.tuple ds)
theorem Thing.noL {n : Nat} {d : PyData} (h : Thing n d) : noL d = true := by
  induction h with
  | num _ _ => rfl
  | tup _ _ ih =>
    simp only [G0.noL]
    exact noLs_of ih
theorem Thing.mono {n m : Nat} {d : PyData} (h : Thing n d) (le : n ≤ m) : Thing m d := by
  induction h generalizing m with
  | num a b => exact .num a b
  | tup l _ ih =>
    cases m with
    | zero => omega
    | succ m => exact .tup l fun d hd => ih d hd (by omega)
def WordOk (z : Str) : Prop := 1 ≤ z.length ∧ z.length ≤ 8 ∧ (∀ c ∈ z.cps.toList, 97 ≤ c ∧ c ≤ 122) ∧ z ≠ "gone"
def LetterD (d : PyData) : Prop := ∃ (z : Str) (ds : List PyData), d = .tuple (.str z :: ds) ∧ WordOk z ∧ ds.length ≤ 5 ∧ ∀ x ∈ ds, Thing 3 x
theorem LetterD.noL {d : PyData} (h : LetterD d) : noL d = true := by
  obtain ⟨z, ds, rfl, _, _, hd⟩ := h
  simp only [G0.noL, noLs, Bool.true_and]
  exact noLs_of fun x hx => (hd x hx).noL
theorem Chg.mut {p D : Addr} {H0 H1 : Hp} {o : HO} (a : Chg p H0 H1) (n : H0 D = none) : Chg p H0 (upd H1 D o) := fun b u m e => by
  rw [upd_ne (ne_of_none e n)]; exact a b u m e
theorem PotAt.ne {n : Nat} {H H' : Hp} {p D : Addr} {o : HO} (h : PotAt n H p) (d : p ≠ D) (e : H' = upd H D o) : PotAt n H' p := by
  obtain ⟨xs, q, r⟩ := h
  exact ⟨xs, by rw [e, upd_ne d]; exact q, r⟩
theorem PotAt.new {n : Nat} {H : Hp} {p D : Addr} {o : HO} (h : PotAt n H p) (d : H D = none) : PotAt n (upd H D o) p := h.keep (same_upd d)
theorem PotAt.neD {n : Nat} {H : Hp} {p D : Addr} (h : PotAt n H p) (d : H D = none) : p ≠ D := by
  obtain ⟨xs, q, r⟩ := h
  exact ne_of_none q d
theorem PotAt.lst {n : Nat} {H : Hp} {p : Addr} (h : PotAt n H p) : ∃ xs, H p = some (.lst xs) := by
  obtain ⟨xs, q, r⟩ := h
  exact ⟨xs, q⟩
theorem PotAt.neT {n : Nat} {H : Hp} {p t : Addr} {xs : List V} (h : PotAt n H p) (d : H t = some (.tup xs)) : t ≠ p := by
  obtain ⟨ys, q, r⟩ := h
  exact ne_of d q (by intro z; cases z)
theorem Cal.imp {P : Program} {w : World} {K : PySem.W.Frag} {mg : Str → Option Value} {base : Heap} {x : Str} {k : Nat} {ps : List Str} {sp sp' : Sp}
    (C : Cal P w K mg base x k ps sp) (h : ∀ vs H Q E, sp' vs H Q E → sp vs H Q E) : Cal P w K mg base x k ps sp' := by
  obtain ⟨f, fd, F, r⟩ := C
  exact ⟨f, fd, ⟨fun a b c d q => F.len _ _ _ _ (h _ _ _ _ q), fun A o s H args us vs Q E hr he hb hv hs => F.run A o s H args us vs Q E hr he hb hv (h _ _ _ _ hs)⟩, r⟩
theorem cal_no {P : Program} {w : World} {K : PySem.W.Frag} {mg : Str → Option Value} {base : Heap} {x : Str} {st : Stmt} {ps : List Str} (F : Fn K mg x st)
    (bd : ∀ (kV doc pm : Value) (an : Option Addr) (cdv ct : Value) (us : List Value), us.length = ps.length →
      bindArgs (PySem.W.fnOf x x (defArgs st) (defBody st) (defScope st) .none kV doc pm an cdv ct) ⟨us, []⟩ = pure (ps.zip us)) :
    Cal P w K mg base x 0 ps (fun _ _ _ _ => False) := by
  obtain ⟨f, fd, F, m⟩ := F
  obtain ⟨oc, od, kV, doc, pm, an, cdv, ct, osl, e, lk, c⟩ := id F.ex
  exact ⟨f, fd, ⟨fun _ _ _ _ h => h.elim, fun _ _ _ _ _ _ _ _ _ _ _ _ _ h => h.elim⟩, F.binds bd, m, F.kp, oc, od, osl, lk⟩
/-! ### texts of small letters -/
theorem az : ∀ j : Fin 26, (("abcdefghijklmnopqrstuvwxyz" : Str).cps.toList)[j.val]? = some (97 + j.val) := by decide +kernel
theorem az_at {d : Int} (h0 : 0 ≤ d) (h1 : d < 26) : atI ("abcdefghijklmnopqrstuvwxyz" : Str).cps.toList d = some (97 + d.toNat) := by
  have e : d = ((d.toNat : Nat) : Int) := by omega
  have q := az ⟨d.toNat, by omega⟩
  rw [e]
  exact atI_nat q
def sg (c : Nat) : Str := ⟨#[c]⟩
open TL in
theorem joinL_sg : ∀ cs : List Nat, joinL [] (cs.map fun c => [c]) = cs
  | [] => rfl
  | [c] => rfl
  | c :: d :: r => by
    show [c] ++ ([] ++ joinL [] ((d :: r).map fun c => [c])) = c :: d :: r
    rw [joinL_sg (d :: r)]
    rfl
open TL in
theorem tl_of (z : Str) : tl z = z.cps.toList := rfl
open TL in
theorem join_sg (cs : List Nat) : (Txt.join "" (cs.map sg)).cps.toList = cs := by
  rw [join_eq, ← tl_of, tl_join]
  have e : (cs.map sg).map tl = cs.map fun c => [c] := by rw [List.map_map]; rfl
  rw [e]
  exact joinL_sg cs
open TL in
theorem join_sg_len (cs : List Nat) : (Txt.join "" (cs.map sg)).length = cs.length := by
  have e := congrArg List.length (join_sg cs)
  rw [← e]
  show _ = (Txt.join "" (cs.map sg)).cps.toList.length
  simp [Str.length]
theorem sum_sg : ∀ cs : List Nat, ((cs.map sg).map (·.length)).sum = cs.length
  | [] => rfl
  | c :: r => by
    show 1 + ((r.map sg).map (·.length)).sum = r.length + 1
    rw [sum_sg r]; omega

end G0
namespace G0
open PySem PySem.Spec PyProof.Rows L2
theorem iteF' {c : Bool} {A B : Prop} (e : c = false) (h : B) : if c = true then A else B := by rw [e]; exact iteF h
theorem iteT' {c : Bool} {A B : Prop} (e : c = true) (h : A) : if c = true then A else B := by rw [e]; exact iteT h
/-! ### several lists may change -/
def ChgS (S : List Addr) (H H' : Hp) : Prop := ∀ b o, b ∉ S → H b = some o → H' b = some o
section
variable {S : List Addr} {p q : Addr} {H H' H0 H1 H2 : Hp} {o : HO}
theorem ChgS.refl : ChgS S H H := fun _ _ _ e => e
theorem ChgS.trans (a : ChgS S H H1) (b : ChgS S H1 H2) : ChgS S H H2 := fun c o n e => b c o n (a c o n e)
theorem Chg.s (h : Chg p H H') (m : p ∈ S) : ChgS S H H' := fun b o n e => h b o (fun z => n (z ▸ m)) e
theorem Same.s (h : Same H H') : ChgS S H H' := fun b o _ e => h b o e
theorem ChgS.mono {T : List Addr} (h : ChgS S H H') (m : ∀ b ∈ S, b ∈ T) : ChgS T H H' := fun b o n e => h b o (fun z => n (m b z)) e
theorem ChgS.new (a : ChgS S H H1) (n : H1 q = none) : ChgS S H (upd H1 q o) := fun b u m e => by
  rw [upd_ne (ne_of_none (a b u m e) n)]; exact a b u m e
theorem ChgS.mut (a : ChgS S H H1) (n : H q = none) : ChgS S H (upd H1 q o) := fun b u m e => by
  rw [upd_ne (ne_of_none e n)]; exact a b u m e
theorem ChgS.put (a : ChgS S H H1) (m : q ∈ S) : ChgS S H (upd H1 q o) := fun b u n e => by
  have nb : b ≠ q := fun z => n (by rw [z]; exact m)
  rw [upd_ne nb]; exact a b u n e
/-- what is new behind was new ahead -/
theorem ChgS.back (a : ChgS S H H1) (n : H1 q = none) (m : q ∉ S) : H q = none := by
  cases e : H q with
  | none => rfl
  | some u => rw [a q u m e] at n; cases n
theorem Chg.back (a : Chg p H H1) (n : H1 q = none) (m : q ≠ p) : H q = none := by
  cases e : H q with
  | none => rfl
  | some u => rw [a q u m e] at n; cases n
theorem PotAt.keepS {n : Nat} (h : PotAt n H p) (s : ChgS S H H') (m : p ∉ S) : PotAt n H' p := by
  obtain ⟨xs, e, h⟩ := h
  exact ⟨xs, s _ _ m e, h⟩
end
/-! ### lists of ints -/
section
variable {K : PySem.W.Frag} {H : Hp}
theorem dps_ints : ∀ ns : List Int, DpAll K H (ns.map V.int) (ns.map PyData.int)
  | [] => .nil
  | n :: r => .cons (.int n) (dps_ints r)
theorem dp_ints {a : Addr} {ns : List Int} (h : H a = some (.lst (ns.map V.int))) : Dp K H (.ref a) (.list (ns.map PyData.int)) := .lst (SqL.of h) (dps_ints ns)
theorem lay_ints : ∀ ns : List Int, PyData.canLayAll0 (ns.map PyData.int) = true
  | [] => by simp [PyData.canLayAll0]
  | n :: r => by simp [PyData.canLayAll0, PyData.canLay0, lay_ints r]
theorem deep_ints : ∀ ns : List Int, PyData.depthAll (ns.map PyData.int) = 0
  | [] => by simp [PyData.depthAll]
  | n :: r => by simp [PyData.depthAll, PyData.depth, deep_ints r]
theorem shaped_ints (ns : List Int) : SeqAt.shaped (.list (ns.map PyData.int)) = true := by
  show ((PyData.list (ns.map PyData.int)).canLay0 && decide ((PyData.list (ns.map PyData.int)).depth ≤ 64)) = true
  simp [PyData.canLay0, PyData.depth, lay_ints, deep_ints]
theorem flat_ints : ∀ ns : List Int, (ns.map V.int).all flatV = true
  | [] => rfl
  | n :: r => by simp [flatV, flat_ints r]
theorem inV_ints (v : Int) : ∀ ns : List Int, inV (.int v) (ns.map V.int) = decide (v ∈ ns)
  | [] => by simp [inV]
  | n :: r => by
    have ih := inV_ints v r
    unfold inV at ih ⊢
    rw [List.map_cons, List.any_cons, ih]
    show ((n == v) || decide (v ∈ r)) = decide (v ∈ n :: r)
    by_cases e : n = v
    · subst e; simp
    · have e' : ¬ v = n := fun z => e z.symm
      simp [e, e']
theorem at_ints {ns : List Int} {d : Int} (h0 : 0 ≤ d) (h1 : d < ns.length) : ∃ v, v ∈ ns ∧ atI (ns.map V.int) d = some (.int v) := by
  have hk : d.toNat < ns.length := by omega
  have ek : d = ((d.toNat : Nat) : Int) := by omega
  refine ⟨ns[d.toNat], List.getElem_mem hk, ?_⟩
  have q : atI (ns.map V.int) ((d.toNat : Nat) : Int) = some (.int ns[d.toNat]) := atI_nat (by rw [List.getElem?_map, List.getElem?_eq_getElem hk] <;> rfl)
  rw [← ek] at q
  exact q
end
/-! ### how long a repr is -/
mutual
def cost : PyData → Nat
  | .none => 4
  | .bool _ => 5
  | .int _ => 1921
  | .str x => 10 * x.length + 2
  | .list xs => 2 + costs xs
  | .tuple xs => 4 + costs xs
  | .dict _ => 0
def costs : List PyData → Nat
  | [] => 0
  | x :: xs => cost x + 2 + costs xs
end
theorem from_le : ∀ (ts : List Str) (k : Nat) (acc : Str), (textFrom k acc ts).length ≤ acc.length + (ts.map fun t => t.length + 2).sum
  | [], k, acc => by show acc.length ≤ _; simp
  | t :: r, k, acc => by
    have ih := from_le r (k + 1) (acc ++ (if k > 0 then ", " else "" : String) ++ t)
    show (textFrom (k + 1) _ r).length ≤ _
    rw [List.map_cons, List.sum_cons]
    rw [Str.length_append, Str.length_append] at ih
    have sep : (Str.ofString (if k > 0 then ", " else "")).length ≤ 2 := by split <;> decide
    omega
theorem join_le : ∀ ts : List Str, (Str.join ", " ts).length ≤ (ts.map fun t => t.length + 2).sum
  | [] => by decide
  | [x] => by show x.length ≤ _; simp
  | x :: y :: r => by
    have ih := join_le (y :: r)
    show (x ++ (", " : Str) ++ Str.join ", " (y :: r)).length ≤ _
    rw [Str.length_append, Str.length_append, List.map_cons, List.sum_cons]
    have : (", " : Str).length = 2 := by decide
    omega
theorem small_cps {x : Str} (h : PyData.strOk x = true) : ∀ c ∈ x.cps.toList, c < 16 ^ 8 := fun c hc => by
  unfold PyData.strOk at h
  rw [Array.all_eq_true_iff_forall_mem] at h
  have := of_decide_eq_true (h c (Array.mem_toList_iff.mp hc))
  omega
mutual
theorem shown_le : ∀ d : PyData, d.showable = true → d.canLay0 = true → d.shown.length ≤ cost d
  | .none, _, _ => by show (("None" : Str)).length ≤ 4; decide
  | .bool b, _, _ => by cases b <;> (simp only [PyData.shown, cost]; decide)
  | .int i, h, _ => by
    simp only [PyData.shown, cost]
    exact int_text_len_1921 (by simpa [PyData.showable] using h)
  | .str x, _, h => by
    simp only [PyData.shown, cost]
    exact StrLaws.reprText_len x (small_cps (by simpa [PyData.canLay0] using h))
  | .list xs, h, l => by
    have ih := shown_les xs (by simpa [PyData.showable] using h) (by simpa [PyData.canLay0] using l)
    simp only [PyData.shown, cost]
    show (textFrom 0 "[" (PyData.shownAll xs) ++ ("]" : Str)).length ≤ _
    have := from_le (PyData.shownAll xs) 0 "["
    have a : ("[" : Str).length = 1 := by decide
    have b : ("]" : Str).length = 1 := by decide
    rw [Str.length_append]
    omega
  | .tuple xs, h, l => by
    have ih := shown_les xs (by simpa [PyData.showable] using h) (by simpa [PyData.canLay0] using l)
    simp only [PyData.shown, cost]
    show (("(" : Str) ++ Str.join ", " (PyData.shownAll xs) ++ (Str.ofString (if (PyData.shownAll xs).length == 1 then ",)" else ")"))).length ≤ _
    have := join_le (PyData.shownAll xs)
    have a : ("(" : Str).length = 1 := by decide
    have b : (Str.ofString (if (PyData.shownAll xs).length == 1 then ",)" else ")")).length ≤ 2 := by split <;> decide
    rw [Str.length_append, Str.length_append]
    omega
  | .dict _, _, h => by simp [PyData.canLay0] at h
theorem shown_les : ∀ ds : List PyData, PyData.showableAll ds = true → PyData.canLayAll0 ds = true → ((PyData.shownAll ds).map fun t => t.length + 2).sum ≤ costs ds
  | [], _, _ => Nat.le_refl _
  | d :: ds, h, l => by
    simp only [PyData.showableAll, Bool.and_eq_true] at h
    simp only [PyData.canLayAll0, Bool.and_eq_true] at l
    have h1 := shown_le d h.1 l.1
    have h2 := shown_les ds h.2 l.2
    simp only [PyData.shownAll, costs, List.map_cons, List.sum_cons]
    omega
end

end G0
namespace G0
open PySem PySem.Spec PyProof.Rows L2
theorem n_caF_me_stt : (("me" : Str) = "state") = False := eq_false (by decide +kernel)
theorem n_caF_me_sits : (("me" : Str) = "sits") = False := eq_false (by decide +kernel)
theorem n_caF_me_rnd : (("me" : Str) = "round") = False := eq_false (by decide +kernel)
theorem n_caF_me_ros : (("me" : Str) = "_roster") = False := eq_false (by decide +kernel)
theorem n_caF_me_nms : (("me" : Str) = "_numbers") = False := eq_false (by decide +kernel)
theorem n_caF_me_key : (("me" : Str) = "_key") = False := eq_false (by decide +kernel)
theorem n_caF_me_bgn : (("me" : Str) = "_begun") = False := eq_false (by decide +kernel)
theorem n_caF_me_plg : (("me" : Str) = "_pledges") = False := eq_false (by decide +kernel)
theorem n_caF_stt_me : (("state" : Str) = "me") = False := eq_false (by decide +kernel)
theorem n_caF_stt_sits : (("state" : Str) = "sits") = False := eq_false (by decide +kernel)
theorem n_caF_stt_rnd : (("state" : Str) = "round") = False := eq_false (by decide +kernel)
theorem n_caF_stt_ros : (("state" : Str) = "_roster") = False := eq_false (by decide +kernel)
theorem n_caF_stt_nms : (("state" : Str) = "_numbers") = False := eq_false (by decide +kernel)
theorem n_caF_stt_key : (("state" : Str) = "_key") = False := eq_false (by decide +kernel)
theorem n_caF_stt_bgn : (("state" : Str) = "_begun") = False := eq_false (by decide +kernel)
theorem n_caF_stt_plg : (("state" : Str) = "_pledges") = False := eq_false (by decide +kernel)
theorem n_caF_sits_me : (("sits" : Str) = "me") = False := eq_false (by decide +kernel)
theorem n_caF_sits_stt : (("sits" : Str) = "state") = False := eq_false (by decide +kernel)
theorem n_caF_sits_rnd : (("sits" : Str) = "round") = False := eq_false (by decide +kernel)
theorem n_caF_sits_ros : (("sits" : Str) = "_roster") = False := eq_false (by decide +kernel)
theorem n_caF_sits_nms : (("sits" : Str) = "_numbers") = False := eq_false (by decide +kernel)
theorem n_caF_sits_key : (("sits" : Str) = "_key") = False := eq_false (by decide +kernel)
theorem n_caF_sits_bgn : (("sits" : Str) = "_begun") = False := eq_false (by decide +kernel)
theorem n_caF_sits_plg : (("sits" : Str) = "_pledges") = False := eq_false (by decide +kernel)
theorem n_caF_rnd_me : (("round" : Str) = "me") = False := eq_false (by decide +kernel)
theorem n_caF_rnd_stt : (("round" : Str) = "state") = False := eq_false (by decide +kernel)
theorem n_caF_rnd_sits : (("round" : Str) = "sits") = False := eq_false (by decide +kernel)
theorem n_caF_rnd_ros : (("round" : Str) = "_roster") = False := eq_false (by decide +kernel)
theorem n_caF_rnd_nms : (("round" : Str) = "_numbers") = False := eq_false (by decide +kernel)
theorem n_caF_rnd_key : (("round" : Str) = "_key") = False := eq_false (by decide +kernel)
theorem n_caF_rnd_bgn : (("round" : Str) = "_begun") = False := eq_false (by decide +kernel)
theorem n_caF_rnd_plg : (("round" : Str) = "_pledges") = False := eq_false (by decide +kernel)
theorem n_caF_ros_me : (("_roster" : Str) = "me") = False := eq_false (by decide +kernel)
theorem n_caF_ros_stt : (("_roster" : Str) = "state") = False := eq_false (by decide +kernel)
theorem n_caF_ros_sits : (("_roster" : Str) = "sits") = False := eq_false (by decide +kernel)
theorem n_caF_ros_rnd : (("_roster" : Str) = "round") = False := eq_false (by decide +kernel)
theorem n_caF_ros_nms : (("_roster" : Str) = "_numbers") = False := eq_false (by decide +kernel)
theorem n_caF_ros_key : (("_roster" : Str) = "_key") = False := eq_false (by decide +kernel)
theorem n_caF_ros_bgn : (("_roster" : Str) = "_begun") = False := eq_false (by decide +kernel)
theorem n_caF_ros_plg : (("_roster" : Str) = "_pledges") = False := eq_false (by decide +kernel)
theorem n_caF_nms_me : (("_numbers" : Str) = "me") = False := eq_false (by decide +kernel)
theorem n_caF_nms_stt : (("_numbers" : Str) = "state") = False := eq_false (by decide +kernel)
theorem n_caF_nms_sits : (("_numbers" : Str) = "sits") = False := eq_false (by decide +kernel)
theorem n_caF_nms_rnd : (("_numbers" : Str) = "round") = False := eq_false (by decide +kernel)
theorem n_caF_nms_ros : (("_numbers" : Str) = "_roster") = False := eq_false (by decide +kernel)
theorem n_caF_nms_key : (("_numbers" : Str) = "_key") = False := eq_false (by decide +kernel)
theorem n_caF_nms_bgn : (("_numbers" : Str) = "_begun") = False := eq_false (by decide +kernel)
theorem n_caF_nms_plg : (("_numbers" : Str) = "_pledges") = False := eq_false (by decide +kernel)
theorem n_caF_key_me : (("_key" : Str) = "me") = False := eq_false (by decide +kernel)
theorem n_caF_key_stt : (("_key" : Str) = "state") = False := eq_false (by decide +kernel)
theorem n_caF_key_sits : (("_key" : Str) = "sits") = False := eq_false (by decide +kernel)
theorem n_caF_key_rnd : (("_key" : Str) = "round") = False := eq_false (by decide +kernel)
theorem n_caF_key_ros : (("_key" : Str) = "_roster") = False := eq_false (by decide +kernel)
theorem n_caF_key_nms : (("_key" : Str) = "_numbers") = False := eq_false (by decide +kernel)
theorem n_caF_key_bgn : (("_key" : Str) = "_begun") = False := eq_false (by decide +kernel)
theorem n_caF_key_plg : (("_key" : Str) = "_pledges") = False := eq_false (by decide +kernel)
theorem n_caF_bgn_me : (("_begun" : Str) = "me") = False := eq_false (by decide +kernel)
theorem n_caF_bgn_stt : (("_begun" : Str) = "state") = False := eq_false (by decide +kernel)
theorem n_caF_bgn_sits : (("_begun" : Str) = "sits") = False := eq_false (by decide +kernel)
theorem n_caF_bgn_rnd : (("_begun" : Str) = "round") = False := eq_false (by decide +kernel)
theorem n_caF_bgn_ros : (("_begun" : Str) = "_roster") = False := eq_false (by decide +kernel)
theorem n_caF_bgn_nms : (("_begun" : Str) = "_numbers") = False := eq_false (by decide +kernel)
theorem n_caF_bgn_key : (("_begun" : Str) = "_key") = False := eq_false (by decide +kernel)
theorem n_caF_bgn_plg : (("_begun" : Str) = "_pledges") = False := eq_false (by decide +kernel)
theorem n_caF_plg_me : (("_pledges" : Str) = "me") = False := eq_false (by decide +kernel)
theorem n_caF_plg_stt : (("_pledges" : Str) = "state") = False := eq_false (by decide +kernel)
theorem n_caF_plg_sits : (("_pledges" : Str) = "sits") = False := eq_false (by decide +kernel)
theorem n_caF_plg_rnd : (("_pledges" : Str) = "round") = False := eq_false (by decide +kernel)
theorem n_caF_plg_ros : (("_pledges" : Str) = "_roster") = False := eq_false (by decide +kernel)
theorem n_caF_plg_nms : (("_pledges" : Str) = "_numbers") = False := eq_false (by decide +kernel)
theorem n_caF_plg_key : (("_pledges" : Str) = "_key") = False := eq_false (by decide +kernel)
theorem n_caF_plg_bgn : (("_pledges" : Str) = "_begun") = False := eq_false (by decide +kernel)
def caF (me : Int) (stt : Str) (sits : Bool) (rnd : Int) (ros : Addr) (nms : Addr) (key : V) (bgn : V) (plg : Addr) : List (Str × V) := [("me", .int me), ("state", .str stt), ("sits", .bl sits), ("round", .int rnd), ("_roster", .ref ros), ("_numbers", .ref nms), ("_key", key), ("_begun", bgn), ("_pledges", .ref plg)]
theorem caF_me (me : Int) (stt : Str) (sits : Bool) (rnd : Int) (ros : Addr) (nms : Addr) (key : V) (bgn : V) (plg : Addr) : (caF me stt sits rnd ros nms key bgn plg).lookup ("me" : Str) = some (.int me) := by unfold caF; rw [List.lookup_cons_self]
theorem caF_put_me (me : Int) (stt : Str) (sits : Bool) (rnd : Int) (ros : Addr) (nms : Addr) (key : V) (bgn : V) (plg : Addr) (me' : Int) : putF "me" (.int me') (caF me stt sits rnd ros nms key bgn plg) = caF me' stt sits rnd ros nms key bgn plg := by
  simp only [caF, putF, if_false, if_true]
theorem caF_stt (me : Int) (stt : Str) (sits : Bool) (rnd : Int) (ros : Addr) (nms : Addr) (key : V) (bgn : V) (plg : Addr) : (caF me stt sits rnd ros nms key bgn plg).lookup ("state" : Str) = some (.str stt) := by unfold caF; rw [List.lookup_cons, beq_false_of_ne (fun z => by rw [n_caF_stt_me] at z; exact z)]; simp only []; rw [List.lookup_cons_self]
theorem caF_put_stt (me : Int) (stt : Str) (sits : Bool) (rnd : Int) (ros : Addr) (nms : Addr) (key : V) (bgn : V) (plg : Addr) (stt' : Str) : putF "state" (.str stt') (caF me stt sits rnd ros nms key bgn plg) = caF me stt' sits rnd ros nms key bgn plg := by
  simp only [caF, putF, n_caF_me_stt, if_false, if_true]
theorem caF_sits (me : Int) (stt : Str) (sits : Bool) (rnd : Int) (ros : Addr) (nms : Addr) (key : V) (bgn : V) (plg : Addr) : (caF me stt sits rnd ros nms key bgn plg).lookup ("sits" : Str) = some (.bl sits) := by unfold caF; rw [List.lookup_cons, beq_false_of_ne (fun z => by rw [n_caF_sits_me] at z; exact z)]; simp only []; rw [List.lookup_cons, beq_false_of_ne (fun z => by rw [n_caF_sits_stt] at z; exact z)]; simp only []; rw [List.lookup_cons_self]
theorem caF_put_sits (me : Int) (stt : Str) (sits : Bool) (rnd : Int) (ros : Addr) (nms : Addr) (key : V) (bgn : V) (plg : Addr) (sits' : Bool) : putF "sits" (.bl sits') (caF me stt sits rnd ros nms key bgn plg) = caF me stt sits' rnd ros nms key bgn plg := by
  simp only [caF, putF, n_caF_me_sits, n_caF_stt_sits, if_false, if_true]
theorem caF_rnd (me : Int) (stt : Str) (sits : Bool) (rnd : Int) (ros : Addr) (nms : Addr) (key : V) (bgn : V) (plg : Addr) : (caF me stt sits rnd ros nms key bgn plg).lookup ("round" : Str) = some (.int rnd) := by unfold caF; rw [List.lookup_cons, beq_false_of_ne (fun z => by rw [n_caF_rnd_me] at z; exact z)]; simp only []; rw [List.lookup_cons, beq_false_of_ne (fun z => by rw [n_caF_rnd_stt] at z; exact z)]; simp only []; rw [List.lookup_cons, beq_false_of_ne (fun z => by rw [n_caF_rnd_sits] at z; exact z)]; simp only []; rw [List.lookup_cons_self]
theorem caF_put_rnd (me : Int) (stt : Str) (sits : Bool) (rnd : Int) (ros : Addr) (nms : Addr) (key : V) (bgn : V) (plg : Addr) (rnd' : Int) : putF "round" (.int rnd') (caF me stt sits rnd ros nms key bgn plg) = caF me stt sits rnd' ros nms key bgn plg := by
  simp only [caF, putF, n_caF_me_rnd, n_caF_stt_rnd, n_caF_sits_rnd, if_false, if_true]
theorem caF_ros (me : Int) (stt : Str) (sits : Bool) (rnd : Int) (ros : Addr) (nms : Addr) (key : V) (bgn : V) (plg : Addr) : (caF me stt sits rnd ros nms key bgn plg).lookup ("_roster" : Str) = some (.ref ros) := by unfold caF; rw [List.lookup_cons, beq_false_of_ne (fun z => by rw [n_caF_ros_me] at z; exact z)]; simp only []; rw [List.lookup_cons, beq_false_of_ne (fun z => by rw [n_caF_ros_stt] at z; exact z)]; simp only []; rw [List.lookup_cons, beq_false_of_ne (fun z => by rw [n_caF_ros_sits] at z; exact z)]; simp only []; rw [List.lookup_cons, beq_false_of_ne (fun z => by rw [n_caF_ros_rnd] at z; exact z)]; simp only []; rw [List.lookup_cons_self]
theorem caF_put_ros (me : Int) (stt : Str) (sits : Bool) (rnd : Int) (ros : Addr) (nms : Addr) (key : V) (bgn : V) (plg : Addr) (ros' : Addr) : putF "_roster" (.ref ros') (caF me stt sits rnd ros nms key bgn plg) = caF me stt sits rnd ros' nms key bgn plg := by
  simp only [caF, putF, n_caF_me_ros, n_caF_stt_ros, n_caF_sits_ros, n_caF_rnd_ros, if_false, if_true]
theorem caF_nms (me : Int) (stt : Str) (sits : Bool) (rnd : Int) (ros : Addr) (nms : Addr) (key : V) (bgn : V) (plg : Addr) : (caF me stt sits rnd ros nms key bgn plg).lookup ("_numbers" : Str) = some (.ref nms) := by unfold caF; rw [List.lookup_cons, beq_false_of_ne (fun z => by rw [n_caF_nms_me] at z; exact z)]; simp only []; rw [List.lookup_cons, beq_false_of_ne (fun z => by rw [n_caF_nms_stt] at z; exact z)]; simp only []; rw [List.lookup_cons, beq_false_of_ne (fun z => by rw [n_caF_nms_sits] at z; exact z)]; simp only []; rw [List.lookup_cons, beq_false_of_ne (fun z => by rw [n_caF_nms_rnd] at z; exact z)]; simp only []; rw [List.lookup_cons, beq_false_of_ne (fun z => by rw [n_caF_nms_ros] at z; exact z)]; simp only []; rw [List.lookup_cons_self]
theorem caF_put_nms (me : Int) (stt : Str) (sits : Bool) (rnd : Int) (ros : Addr) (nms : Addr) (key : V) (bgn : V) (plg : Addr) (nms' : Addr) : putF "_numbers" (.ref nms') (caF me stt sits rnd ros nms key bgn plg) = caF me stt sits rnd ros nms' key bgn plg := by
  simp only [caF, putF, n_caF_me_nms, n_caF_stt_nms, n_caF_sits_nms, n_caF_rnd_nms, n_caF_ros_nms, if_false, if_true]
theorem caF_key (me : Int) (stt : Str) (sits : Bool) (rnd : Int) (ros : Addr) (nms : Addr) (key : V) (bgn : V) (plg : Addr) : (caF me stt sits rnd ros nms key bgn plg).lookup ("_key" : Str) = some (key) := by unfold caF; rw [List.lookup_cons, beq_false_of_ne (fun z => by rw [n_caF_key_me] at z; exact z)]; simp only []; rw [List.lookup_cons, beq_false_of_ne (fun z => by rw [n_caF_key_stt] at z; exact z)]; simp only []; rw [List.lookup_cons, beq_false_of_ne (fun z => by rw [n_caF_key_sits] at z; exact z)]; simp only []; rw [List.lookup_cons, beq_false_of_ne (fun z => by rw [n_caF_key_rnd] at z; exact z)]; simp only []; rw [List.lookup_cons, beq_false_of_ne (fun z => by rw [n_caF_key_ros] at z; exact z)]; simp only []; rw [List.lookup_cons, beq_false_of_ne (fun z => by rw [n_caF_key_nms] at z; exact z)]; simp only []; rw [List.lookup_cons_self]
theorem caF_put_key (me : Int) (stt : Str) (sits : Bool) (rnd : Int) (ros : Addr) (nms : Addr) (key : V) (bgn : V) (plg : Addr) (key' : V) : putF "_key" (key') (caF me stt sits rnd ros nms key bgn plg) = caF me stt sits rnd ros nms key' bgn plg := by
  simp only [caF, putF, n_caF_me_key, n_caF_stt_key, n_caF_sits_key, n_caF_rnd_key, n_caF_ros_key, n_caF_nms_key, if_false, if_true]
theorem caF_bgn (me : Int) (stt : Str) (sits : Bool) (rnd : Int) (ros : Addr) (nms : Addr) (key : V) (bgn : V) (plg : Addr) : (caF me stt sits rnd ros nms key bgn plg).lookup ("_begun" : Str) = some (bgn) := by unfold caF; rw [List.lookup_cons, beq_false_of_ne (fun z => by rw [n_caF_bgn_me] at z; exact z)]; simp only []; rw [List.lookup_cons, beq_false_of_ne (fun z => by rw [n_caF_bgn_stt] at z; exact z)]; simp only []; rw [List.lookup_cons, beq_false_of_ne (fun z => by rw [n_caF_bgn_sits] at z; exact z)]; simp only []; rw [List.lookup_cons, beq_false_of_ne (fun z => by rw [n_caF_bgn_rnd] at z; exact z)]; simp only []; rw [List.lookup_cons, beq_false_of_ne (fun z => by rw [n_caF_bgn_ros] at z; exact z)]; simp only []; rw [List.lookup_cons, beq_false_of_ne (fun z => by rw [n_caF_bgn_nms] at z; exact z)]; simp only []; rw [List.lookup_cons, beq_false_of_ne (fun z => by rw [n_caF_bgn_key] at z; exact z)]; simp only []; rw [List.lookup_cons_self]
theorem caF_put_bgn (me : Int) (stt : Str) (sits : Bool) (rnd : Int) (ros : Addr) (nms : Addr) (key : V) (bgn : V) (plg : Addr) (bgn' : V) : putF "_begun" (bgn') (caF me stt sits rnd ros nms key bgn plg) = caF me stt sits rnd ros nms key bgn' plg := by
  simp only [caF, putF, n_caF_me_bgn, n_caF_stt_bgn, n_caF_sits_bgn, n_caF_rnd_bgn, n_caF_ros_bgn, n_caF_nms_bgn, n_caF_key_bgn, if_false, if_true]
theorem caF_plg (me : Int) (stt : Str) (sits : Bool) (rnd : Int) (ros : Addr) (nms : Addr) (key : V) (bgn : V) (plg : Addr) : (caF me stt sits rnd ros nms key bgn plg).lookup ("_pledges" : Str) = some (.ref plg) := by unfold caF; rw [List.lookup_cons, beq_false_of_ne (fun z => by rw [n_caF_plg_me] at z; exact z)]; simp only []; rw [List.lookup_cons, beq_false_of_ne (fun z => by rw [n_caF_plg_stt] at z; exact z)]; simp only []; rw [List.lookup_cons, beq_false_of_ne (fun z => by rw [n_caF_plg_sits] at z; exact z)]; simp only []; rw [List.lookup_cons, beq_false_of_ne (fun z => by rw [n_caF_plg_rnd] at z; exact z)]; simp only []; rw [List.lookup_cons, beq_false_of_ne (fun z => by rw [n_caF_plg_ros] at z; exact z)]; simp only []; rw [List.lookup_cons, beq_false_of_ne (fun z => by rw [n_caF_plg_nms] at z; exact z)]; simp only []; rw [List.lookup_cons, beq_false_of_ne (fun z => by rw [n_caF_plg_key] at z; exact z)]; simp only []; rw [List.lookup_cons, beq_false_of_ne (fun z => by rw [n_caF_plg_bgn] at z; exact z)]; simp only []; rw [List.lookup_cons_self]
theorem caF_put_plg (me : Int) (stt : Str) (sits : Bool) (rnd : Int) (ros : Addr) (nms : Addr) (key : V) (bgn : V) (plg : Addr) (plg' : Addr) : putF "_pledges" (.ref plg') (caF me stt sits rnd ros nms key bgn plg) = caF me stt sits rnd ros nms key bgn plg' := by
  simp only [caF, putF, n_caF_me_plg, n_caF_stt_plg, n_caF_sits_plg, n_caF_rnd_plg, n_caF_ros_plg, n_caF_nms_plg, n_caF_key_plg, n_caF_bgn_plg, if_false, if_true]
theorem caF_no (me : Int) (stt : Str) (sits : Bool) (rnd : Int) (ros : Addr) (nms : Addr) (key : V) (bgn : V) (plg : Addr) {x : Str} (h0 : x ≠ ("me" : Str)) (h1 : x ≠ ("state" : Str)) (h2 : x ≠ ("sits" : Str)) (h3 : x ≠ ("round" : Str)) (h4 : x ≠ ("_roster" : Str)) (h5 : x ≠ ("_numbers" : Str)) (h6 : x ≠ ("_key" : Str)) (h7 : x ≠ ("_begun" : Str)) (h8 : x ≠ ("_pledges" : Str)) : (caF me stt sits rnd ros nms key bgn plg).lookup x = none := by
  unfold caF
  rw [List.lookup_cons, beq_false_of_ne h0]; simp only []
  rw [List.lookup_cons, beq_false_of_ne h1]; simp only []
  rw [List.lookup_cons, beq_false_of_ne h2]; simp only []
  rw [List.lookup_cons, beq_false_of_ne h3]; simp only []
  rw [List.lookup_cons, beq_false_of_ne h4]; simp only []
  rw [List.lookup_cons, beq_false_of_ne h5]; simp only []
  rw [List.lookup_cons, beq_false_of_ne h6]; simp only []
  rw [List.lookup_cons, beq_false_of_ne h7]; simp only []
  rw [List.lookup_cons, beq_false_of_ne h8]; rfl
theorem caF_made (me : Int) (stt : Str) (sits : Bool) (rnd : Int) (ros : Addr) (nms : Addr) (key : V) (bgn : V) (plg : Addr) : putF "_pledges" (.ref plg) (putF "_begun" (bgn) (putF "_key" (key) (putF "_numbers" (.ref nms) (putF "_roster" (.ref ros) (putF "round" (.int rnd) (putF "sits" (.bl sits) (putF "state" (.str stt) (putF "me" (.int me) ([] )))))))))= caF me stt sits rnd ros nms key bgn plg := by
  simp only [putF, caF, n_caF_me_stt, n_caF_me_sits, n_caF_stt_sits, n_caF_me_rnd, n_caF_stt_rnd, n_caF_sits_rnd, n_caF_me_ros, n_caF_stt_ros, n_caF_sits_ros, n_caF_rnd_ros, n_caF_me_nms, n_caF_stt_nms, n_caF_sits_nms, n_caF_rnd_nms, n_caF_ros_nms, n_caF_me_key, n_caF_stt_key, n_caF_sits_key, n_caF_rnd_key, n_caF_ros_key, n_caF_nms_key, n_caF_me_bgn, n_caF_stt_bgn, n_caF_sits_bgn, n_caF_rnd_bgn, n_caF_ros_bgn, n_caF_nms_bgn, n_caF_key_bgn, n_caF_me_plg, n_caF_stt_plg, n_caF_sits_plg, n_caF_rnd_plg, n_caF_ros_plg, n_caF_nms_plg, n_caF_key_plg, n_caF_bgn_plg, if_false, if_true]
end G0
namespace G0
open PySem PySem.Spec PyProof.Rows L2
theorem n_keF_rnd_srv : (("round" : Str) = "_served") = False := eq_false (by decide +kernel)
theorem n_keF_rnd_lin : (("round" : Str) = "_line") = False := eq_false (by decide +kernel)
theorem n_keF_srv_rnd : (("_served" : Str) = "round") = False := eq_false (by decide +kernel)
theorem n_keF_srv_lin : (("_served" : Str) = "_line") = False := eq_false (by decide +kernel)
theorem n_keF_lin_rnd : (("_line" : Str) = "round") = False := eq_false (by decide +kernel)
theorem n_keF_lin_srv : (("_line" : Str) = "_served") = False := eq_false (by decide +kernel)
def keF (rnd : Int) (srv : Addr) (lin : Addr) : List (Str × V) := [("round", .int rnd), ("_served", .ref srv), ("_line", .ref lin)]
theorem keF_rnd (rnd : Int) (srv : Addr) (lin : Addr) : (keF rnd srv lin).lookup ("round" : Str) = some (.int rnd) := by unfold keF; rw [List.lookup_cons_self]
theorem keF_put_rnd (rnd : Int) (srv : Addr) (lin : Addr) (rnd' : Int) : putF "round" (.int rnd') (keF rnd srv lin) = keF rnd' srv lin := by
  simp only [keF, putF, if_false, if_true]
theorem keF_srv (rnd : Int) (srv : Addr) (lin : Addr) : (keF rnd srv lin).lookup ("_served" : Str) = some (.ref srv) := by unfold keF; rw [List.lookup_cons, beq_false_of_ne (fun z => by rw [n_keF_srv_rnd] at z; exact z)]; simp only []; rw [List.lookup_cons_self]
theorem keF_put_srv (rnd : Int) (srv : Addr) (lin : Addr) (srv' : Addr) : putF "_served" (.ref srv') (keF rnd srv lin) = keF rnd srv' lin := by
  simp only [keF, putF, n_keF_rnd_srv, if_false, if_true]
theorem keF_lin (rnd : Int) (srv : Addr) (lin : Addr) : (keF rnd srv lin).lookup ("_line" : Str) = some (.ref lin) := by unfold keF; rw [List.lookup_cons, beq_false_of_ne (fun z => by rw [n_keF_lin_rnd] at z; exact z)]; simp only []; rw [List.lookup_cons, beq_false_of_ne (fun z => by rw [n_keF_lin_srv] at z; exact z)]; simp only []; rw [List.lookup_cons_self]
theorem keF_put_lin (rnd : Int) (srv : Addr) (lin : Addr) (lin' : Addr) : putF "_line" (.ref lin') (keF rnd srv lin) = keF rnd srv lin' := by
  simp only [keF, putF, n_keF_rnd_lin, n_keF_srv_lin, if_false, if_true]
theorem keF_no (rnd : Int) (srv : Addr) (lin : Addr) {x : Str} (h0 : x ≠ ("round" : Str)) (h1 : x ≠ ("_served" : Str)) (h2 : x ≠ ("_line" : Str)) : (keF rnd srv lin).lookup x = none := by
  unfold keF
  rw [List.lookup_cons, beq_false_of_ne h0]; simp only []
  rw [List.lookup_cons, beq_false_of_ne h1]; simp only []
  rw [List.lookup_cons, beq_false_of_ne h2]; rfl
theorem keF_made (rnd : Int) (srv : Addr) (lin : Addr) : putF "_line" (.ref lin) (putF "_served" (.ref srv) (putF "round" (.int rnd) ([] )))= keF rnd srv lin := by
  simp only [putF, keF, n_keF_rnd_srv, n_keF_rnd_lin, n_keF_srv_lin, if_false, if_true]
end G0
namespace G0
open PySem PySem.Spec PyProof.Rows L2
/-! ### comprehensions over ints, with a test: what stays, what is made of it -/
theorem ints_at' {ns : List Int} {i : Nat} {x : V} (h : (ns.map V.int)[i]? = some x) : ∃ k, ns[i]? = some k ∧ x = V.int k := by
  rw [List.getElem?_map] at h
  cases e : ns[i]? with
  | none => rw [e] at h; cases h
  | some k => rw [e] at h; exact ⟨k, rfl, (Option.some.inj h).symm⟩
theorem filt_next {α : Type} {ns : List α} {i : Nat} {k : α} (p : α → Bool) (h : ns[i]? = some k) : (ns.take (i + 1)).filter p = (ns.take i).filter p ++ (if p k = true then [k] else []) := by
  rw [List.take_succ, h, List.filter_append]
  cases z : p k <;> simp [z]
theorem tst {b c : Bool} {te : TE} {σ : L2.St} {G : Hp} {Y : VK} {B : Hp → Prop} {v : V} (e : b = c) (go : Y v G → te σ G Y) (h : if c = true then Y v G else B G) : if b = true then te σ G Y else B G := by
  rw [e]
  cases c with
  | true => exact iteT (go ((if_pos rfl).mp h))
  | false => exact iteF (by simpa using h)
section
variable {K : PySem.W.Frag} {a : Addr} {ns : List Int} {g : TG} {tt : TT} {te : TE} {vs : List Nat} {σ : L2.St} {H1 : Hp} {D : Addr} {Qd : Hp → Prop}
theorem lc_filtI (p : Int → Bool) (few : ns.length ≤ 10000) (hD : H1 D = none) (hs : SqL K H1 a (ns.map V.int))
    (step : ∀ (i : Nat) (x : Int) (G : Hp) (Y : VK) (B : Hp → Prop), ns[i]? = some x → Same H1 G → (if p x = true then Y (.int x) G else B G) → g (.int x) (wipe σ vs) G fun σ2 H2 => wipe σ2 vs = wipe σ vs ∧ tt σ2 H2 fun b H3 => if b = true then te σ2 H3 Y else B H3)
    (fin : ∀ G, Same H1 G → G D = some (.lst ((ns.filter p).map V.int)) → Qd G) :
    ∃ W : Nat → Nat → Hp → Prop, (∃ m, W 0 m (upd H1 D (.lst []))) ∧ ∀ i m G, W i m G →
      ((Itl K a).stop i G ∧ Qd G) ∨ ((Itl K a).go i G ∧ ∃ Nx : Hp → Prop, (∀ G', Nx G' → ∃ m', m' < m ∧ W (i + 1) m' G') ∧ ∀ x G', (Itl K a).yld i G x G' → g x (wipe σ vs) G' fun σ2 H2 => wipe σ2 vs = wipe σ vs ∧ tt σ2 H2 fun b H3 =>
        if b = true then te σ2 H3 fun y H4 => ∃ acc, H4 D = some (.lst acc) ∧ acc.length < sizeLine ∧ Nx (upd H4 D (.lst (acc ++ [y]))) else Nx H3) := by
  refine lc_list (K := K) (a := a) (xs := ns.map V.int) (fun i G => Same H1 G ∧ G D = some (.lst (((ns.take i).filter p).map V.int))) ⟨same_upd hD, upd_same⟩ (fun i G _ h => h.1.seq hs) ?_ ?_
  · rintro i x G hx ⟨sG, kD⟩
    obtain ⟨k, hk, rfl⟩ := ints_at' hx
    have li := (List.getElem?_eq_some_iff.mp hk).1
    refine step i k G _ _ hk sG ?_
    rw [filt_next p hk]
    by_cases c : p k = true
    · rw [if_pos c, if_pos c]
      refine ⟨_, kD, ?_, fun b o e => ?_, ?_⟩
      · rw [List.length_map]
        exact Nat.lt_of_lt_of_le (show _ < 20000 from Nat.lt_of_le_of_lt (List.length_filter_le ..) (by rw [List.length_take]; omega)) (by decide)
      · rw [upd_ne (ne_of_none e hD)]
        exact sG _ _ e
      · rw [List.map_append]
        exact upd_same
    · rw [if_neg c, if_neg c, List.append_nil]
      exact ⟨sG, kD⟩
  · rintro G ⟨sG, kD⟩
    rw [List.length_map, List.take_length] at kD
    exact fin G sG kD
theorem lc_dataI (p : Int → Bool) (f : Int → PyData) (few : ns.length ≤ 10000) (nl : ∀ x ∈ ns, noL (f x) = true) (hD : H1 D = none) (hs : SqL K H1 a (ns.map V.int))
    (step : ∀ (i : Nat) (x : Int) (G : Hp) (Y : VK) (B : Hp → Prop), ns[i]? = some x → Same H1 G → (p x = true → ∀ v G', Same G G' → Dp K G' v (f x) → Y v G') → (p x = false → B G) → g (.int x) (wipe σ vs) G fun σ2 H2 => wipe σ2 vs = wipe σ vs ∧ tt σ2 H2 fun b H3 => if b = true then te σ2 H3 Y else B H3)
    (fin : ∀ G zs, Same H1 G → G D = some (.lst zs) → DpAll K G zs ((ns.filter p).map f) → Qd G) :
    ∃ W : Nat → Nat → Hp → Prop, (∃ m, W 0 m (upd H1 D (.lst []))) ∧ ∀ i m G, W i m G →
      ((Itl K a).stop i G ∧ Qd G) ∨ ((Itl K a).go i G ∧ ∃ Nx : Hp → Prop, (∀ G', Nx G' → ∃ m', m' < m ∧ W (i + 1) m' G') ∧ ∀ x G', (Itl K a).yld i G x G' → g x (wipe σ vs) G' fun σ2 H2 => wipe σ2 vs = wipe σ vs ∧ tt σ2 H2 fun b H3 =>
        if b = true then te σ2 H3 fun y H4 => ∃ acc, H4 D = some (.lst acc) ∧ acc.length < sizeLine ∧ Nx (upd H4 D (.lst (acc ++ [y]))) else Nx H3) := by
  refine lc_list (K := K) (a := a) (xs := ns.map V.int) (fun i G => Same H1 G ∧ ∃ zs, zs.length ≤ i ∧ G D = some (.lst zs) ∧ DpAll K G zs (((ns.take i).filter p).map f)) ⟨same_upd hD, [], Nat.le_refl _, upd_same, .nil⟩ (fun i G _ h => h.1.seq hs) ?_ ?_
  · rintro i x G hx ⟨sG, zs, lz, kD, dz⟩
    obtain ⟨k, hk, rfl⟩ := ints_at' hx
    have li := (List.getElem?_eq_some_iff.mp hk).1
    have nls : noLs (((ns.take i).filter p).map f) = true := noLs_of fun d hd => by
      obtain ⟨y, hy, rfl⟩ := List.mem_map.mp hd
      exact nl y (List.mem_of_mem_take (List.mem_filter.mp hy).1)
    refine step i k G _ _ hk sG (fun c v G' s' dv => ?_) (fun c => ?_)
    · have kD' := s' _ _ kD
      refine ⟨_, kD', Nat.lt_of_lt_of_le (show zs.length < 20000 by omega) (by decide), fun b o e => ?_, zs ++ [v], by rw [List.length_append, List.length_singleton]; omega, upd_same, ?_⟩
      · rw [upd_ne (ne_of_none e hD)]
        exact s' _ _ (sG _ _ e)
      · rw [filt_next p hk, if_pos c, List.map_append]
        exact dps_app (dps_chg ⟨_, kD'⟩ Chg.self _ _ nls (dps_same s' _ _ dz)) (.cons (dp_chg ⟨_, kD'⟩ Chg.self _ _ (nl k (List.mem_of_getElem? hk)) dv) .nil)
    · refine ⟨sG, zs, by omega, kD, ?_⟩
      rw [filt_next p hk, if_neg (by simp [c]), List.append_nil]
      exact dz
  · rintro G ⟨sG, zs, lz, kD, dz⟩
    rw [List.length_map, List.take_length] at dz
    exact fin G zs sG kD dz
end

end G0
/-! A def with the cell __class__: its first statement says super().__init__(..). -/
namespace G0
open PySem PySem.Spec PyProof.Rows L2 NdefX
abbrev nfS (name qual : Str) (params : Arguments) (body : List Stmt) (scope : Scope) (cc cda : Addr) : NF := ⟨name, qual, params, body, scope, [("__class__", cc)], cda⟩
/-- a statement whose code must be told -/
def P1 (X : Cx) (body : List Stmt) (st : Stmt) (t : TS) : Prop :=
  ∀ (pins : List (Addr × Obj)) (s : Shared) (σ : L2.St) (H : Hp) (D : Ends), Inv X pins σ H s → t D σ H →
    _root_.PySem.wpAt (model X.prog X.w) X.A (.func body X.env) (exec st X.env) (SP X pins D) X.xe s
theorem fnS_of {CX : CXT} {P : Program} {w : World} {K : PySem.W.Frag} {mg : Str → Option Value} {base : Heap} {k : Nat}
    {f cc cda : Addr} {name qual : Str} {params : Arguments} {st : Stmt} {body : List Stmt} {scope : Scope} {dV kV doc pm ct oc cl : Value} {v : Option Value}
    {an od cld : Option Addr} {osl csl : Array (Option Value)} {N ps : List Str} {sp : Sp}
    (lk : K.lookup f = some ⟨oc, od, .func (PySem.W.ksFn name qual params (st :: body) scope dV kV doc pm an (.ref cda) ct cc), osl⟩)
    (coded : PySem.W.codeIn K (.ref cda) qual = true) (lc : K.lookup cc = some ⟨cl, cld, .cell v, csl⟩) (S : NScope N ps ["__class__"] scope)
    (len : ∀ zs G R W, sp zs G R W → zs.length = ps.length)
    (inner : ∀ (A : Around) (outer : List Env) (s : Shared) (H : Hp) (vs : List V) (Q : VK) (E : XK),
      Room k (A.deeper (envF (nfS name qual params (st :: body) scope cc cda) f s.heap.objs.size)) → sp vs H Q E →
      ∃ t1 t2, P1 (ncx CX P w K mg base N (nfS name qual params (st :: body) scope cc cda) f A outer s H E) (st :: body) st t1 ∧
        PSs (ncx CX P w K mg base N (nfS name qual params (st :: body) scope cc cda) f A outer s H E) body t2 ∧
        t1 { nx := fun σ' H' => t2 { nx := fun _ H' => Q .non H', rt := Q } σ' H', rt := Q } (startF N vs [none]) H) :
    FnOk P w K mg base CX (k + 1) f (PySem.W.ksFn name qual params (st :: body) scope dV kV doc pm an (.ref cda) ct cc) ps sp := by
  refine ⟨len, fun A outer s H given us vs Q E hr e0 bd r hsp => ?_⟩
  have hl := len _ _ _ _ hsp
  have KX : K.In s.heap := e0.mod.kin.keeps fun b o z => (e0.bs b o z).1
  have lim : s.heap.NoLimit := e0.mod.nolimit.keeps fun b o e => (e0.bs b o e).1
  have CA : CellsAt [("__class__", cc)] ["__class__"] [none] s.heap H := {
    len := rfl
    all := fun y c e => by
      have : c = cc := by
        simp only [List.lookup] at e
        split at e
        · exact (Option.some.inj e).symm
        · cases e
      subst this
      exact ⟨(e0.bs _ _ (e0.mod.kin _ _ lc)).2, v, ⟨_, KX _ _ lc, rfl⟩⟩
    inj := fun x y c h1 h2 => by
      have q : ∀ z c', List.lookup z [(("__class__" : Str), cc)] = some c' → z = "__class__" := fun z c' e => by
        simp only [List.lookup] at e
        split at e
        · rename_i h
          exact beq_iff_eq.mp h
        · cases e
      rw [q _ _ h1, q _ _ h2]
    has := fun i y e => by
      match i, e with
      | 0, e =>
        cases e
        exact ⟨cc, rfl, fun v h => by cases h⟩
      | i + 1, e => cases e }
  refine codeAny_call_function hr.depth (KX _ _ lk) rfl S.co S.gen rfl (PySem.W.codeRec_of KX coded) (bd _ _ _ _ ?_)
  refine wpAny_newFunctionEnv S.nocell (fun ⟨n, _⟩ hy => S.par n (List.of_mem_zip hy).1) (fun h₁ hns hsb => ⟨lim.fresh _ hsb, ?_⟩) S.kind
  show codeAny _ _ (.func (st :: body) (envF (nfS name qual params (st :: body) scope cc cda) f s.heap.objs.size)) _ _
  refine PySem.ks_codeAny_funcAt ?_
  have kp : ∀ b o, s.heap.get? b = some o → h₁.get? b = some o := fun b o e => hsb.extBut b o (Nat.ne_of_lt (Heap.lt_size e)) (Heap.get?_push_of_some _ e)
  obtain ⟨t1, t2, h1, h2, hq⟩ := inner A outer s H vs Q E (hr.deeper _) hsp
  have I : Inv (ncx CX P w K mg base N (nfS name qual params (st :: body) scope cc cda) f A outer s H E) [] (startF N vs [none]) H { s with heap := h₁, toks := s.toks + (ps.zip us).length } := inv_startN S hr.hd e0 hl r CA hns kp
  have fin : ∀ {σ' : L2.St} {H' : Hp} {v : V} {u : Value} {s' : Shared}, Inv (ncx CX P w K mg base N (nfS name qual params (st :: body) scope cc cda) f A outer s H E) [] σ' H' s' → L2.RelV v u → Q v H' → CE outer P w H s Q u s' :=
    fun {σ' H' v u s'} J rv q => ⟨v, H', J.os, J.bare, J.base, J.hok, rv, q⟩
  refine PySem.ks_wpAt_execs_cons (PySem.ks_wpAt_mono (h1 [] _ (startF N vs [none]) H _ I hq) (fun fl s' hs => ?_) fun e s' hs => hs)
  match fl, hs with
  | .ret u, ⟨v, σ', H', J, rv, q⟩ => exact fin J rv q
  | .brk, ⟨_, _, _, q⟩ => exact False.elim q
  | .cont, ⟨_, _, _, q⟩ => exact False.elim q
  | .next, ⟨σ', H', J, q⟩ =>
    refine _root_.PySem.wpAt_of_wpAny (wpAny_mono (h2.run [] _ σ' H' _ J q) (fun fl s' hs => ?_) fun e s' hs => hs)
    match fl, hs with
    | .ret u, ⟨v, σ', H', J, rv, q⟩ => exact fin J rv q
    | .next, ⟨σ', H', J, q⟩ => exact fin (v := V.non) (u := Value.none) J rfl q
    | .brk, ⟨_, _, _, q⟩ => exact False.elim q
    | .cont, ⟨_, _, _, q⟩ => exact False.elim q
end G0
namespace G0
open PySem PySem.Spec PyProof.Rows L2 NdefX
/-- what super() without arguments asks of the text and the written part -/
structure SupF (P : Program) (K : PySem.W.Frag) (N : List Str) (f cc cda D : Addr) (fd : FuncData) (params : Arguments) (scope : Scope) : Prop where
  fun_ : ∃ oc od osl, K.lookup f = some ⟨oc, od, .func fd, osl⟩ ∧ fd.params = params
  arg : ∃ ar : Arg, (params.posonlyargs ++ params.args).head? = some ar ∧ N[0]? = some ar.arg ∧ scope.names.lookup ar.arg = some .local
  code : ∃ ccl cdd vs ccs file tf, K.lookup cda = some ⟨ccl, cdd, .fields vs, ccs⟩ ∧ vs[2]? = some (.str file tf) ∧ ((P.main.file : Str) == file) = true
  cell : ∃ cl cld csl, K.lookup cc = some ⟨cl, cld, .cell (some (.ref D)), csl⟩
  cls : ∃ cdD, PySem.W.clsIn K D = some cdD
  miss : PySem.W.nsIn K mainGlobals "super" = some none
  sup : scope.names.lookup ("super" : Str) = some .globalImplicit
  own : scope.names.lookup ("__class__" : Str) = some .free
  kind : scope.kind = .function
  top : (P.main.scope.names.lookup ("super" : Str)).isSome = false
  any_ : PySem.W.nsIn K cStatics "thirdparty.any" = some none
/-- super() is made: an object of its own, held by a pin -/
theorem sup_node {CX : CXT} {P : Program} {w : World} {K : PySem.W.Frag} {mg : Str → Option Value} {base : Heap} {N : List Str}
    {f cc cda D a C : Addr} {name qual : Str} {params : Arguments} {st : List Stmt} {scope : Scope} {fd : FuncData}
    {A : Around} {outer : List Env} {s0 : Shared} {H0 : Hp} {E : XK} {pins : List (Addr × Obj)} {s : Shared} {σ : L2.St} {H : Hp} {p0 p1 : Pos} {attr : Str} {whole : Sem Value} {Q : Value → Shared → Prop} {EE : Value → Shared → Prop} {ox : Obj} {odx : Option Obj}
    (F : SupF P K N f cc cda D fd params scope)
    (I : Inv (ncx CX P w K mg base N (nfS name qual params st scope cc cda) f A outer s0 H0 E) pins σ H s) (hs : σ[0]? = some (some (.ref a)))
    (J : PySem.W.InstAt s.heap a ox C odx) (hsub : PySem.W.mroIn K C (.ref D) = some true) (hat : (attr == ("__class__" : Str)) = false)
    (h : ∀ h', (∀ b o, s.heap.get? b = some o → h'.get? b = some o) → h'.get? s.heap.objs.size = some (PySem.W.ks_superObj D a C) → Q (.ref s.heap.objs.size) { s with heap := h' }) :
    _root_.PySem.wpAt (model P w) (A.deeper (envF (nfS name qual params st scope cc cda) f s0.heap.objs.size)) (.func st (envF (nfS name qual params st scope cc cda) f s0.heap.objs.size))
      (attributeBase (.Call (.Name "super" p0) [] [] p1) attr (envF (nfS name qual params st scope cc cda) f s0.heap.objs.size) whole) Q EE s := by
  obtain ⟨oc, od, osl, hf, hpar⟩ := F.fun_
  obtain ⟨ar, hp, hN, hka⟩ := F.arg
  obtain ⟨ccl, cdd, vs, ccs, file, tf, hcode, hvs, hfile⟩ := F.code
  obtain ⟨cl, cld, csl, hcell⟩ := F.cell
  obtain ⟨cdD, hD⟩ := F.cls
  have X : K.In s.heap := I.kIn
  have M : Mod K mg base := I.mod
  obtain ⟨mb, hb, hboot⟩ := M.blt
  obtain ⟨m, hns, hlook⟩ := I.loc
  obtain ⟨u, ru, look⟩ := hlook 0 ar.arg (.ref a) hN hs (.inl hka)
  have ru : u = Value.ref a := ru
  subst ru
  have hv : m ar.arg = some (.ref a) := by
    rcases look with ⟨_, e⟩ | ⟨e, _⟩
    · exact e
    · exfalso
      have e : scope.names.lookup ar.arg = some .cell ∨ scope.names.lookup ar.arg = some .free := e
      rw [hka] at e
      rcases e with e | e <;> cases e
  have kb : ∀ b o, base.get? b = some o → s.heap.get? b = some o := I.bk
  obtain ⟨hh, g, d, t, os⟩ := s
  obtain ⟨oD, hD1, hD2⟩ : ∃ oD, hh.get? D = some oD ∧ oD.data = .cls cdD := by
    unfold PySem.W.clsIn at hD
    split at hD
    · rename_i c d cd' sl ho
      cases hD
      exact ⟨_, X _ _ ho, rfl⟩
    · cases hD
  subst hpar
  refine PySem.ks_wpAt_super_base F.sup F.own hat rfl (X _ _ hf) rfl hp rfl (X _ _ hcode) rfl hvs hfile F.top ?_
  refine PySem.W.ks_loadName_global F.kind F.sup (PySem.Calls.loadGlobal_builtin (M.glob.keeps kb) (PySem.W.mg_none_of M.kin M.glob F.miss) (hb.keeps kb) ((hboot _ (by decide +kernel)).trans (show bootBuiltins "super" = some (.type "super") by first | rfl | decide +kernel)) ⟨rfl, ?_⟩)
  refine wpAny_loadName_free F.kind F.own rfl ⟨_, X _ _ hcell, rfl⟩ ?_
  refine wpAny_loadName_local F.kind hka hns hv ?_
  refine PySem.ks_wpAny_isType_cls hD1 hD2 ⟨rfl, ?_⟩
  refine PySem.ks_wpAny_call_super hD1 hD2 J.at_ J.cls (fun c e => ?_) (PySem.W.looks_mroIn X hsub) (fun h' e k => h h' k e)
  have := J.no
  unfold PySem.W.notCls at this
  rw [e] at this
  exact Bool.noConfusion this
end G0
namespace G0
open PySem PySem.Spec PyProof.Rows L2 NdefX
section
variable {prog : Program} {w : World} {A : Around} {E : Value → Shared → Prop} {h : Heap} {g : Array GenState} {d : Drawn} {t : Nat} {os : OsState}
/-- a bound ValueError.__init__ is called: the exception's arguments are laid anew -/
theorem mw_code {nm q : Str} {C N : Addr} {bs bm : List Value} {hdct : Bool} {sn : List Str} {sub : List Value} {ab : Bool} {col : Option Bool} {dd : Option Addr} {k0 k1 k2 k3 k5 : Option Value} {u e t0 : Addr} {rest : List Value} {Q : Value → Shared → Prop}
    (hC : h.get? C = some (excClassObj nm q C N bs bm hdct sn sub ab col dd k0 k1 k2 k3 k5 "ValueError.__new__")) (he : h.get? e = some (PySem.HandSPX.excO C t0)) (hu : h.get? u = some (PySem.W.kxs_mw "ValueError.__init__" e)) (few : rest.length ≤ sizeLine)
    (k : ∀ h' t1, (∀ b o, b ≠ e → h.get? b = some o → h'.get? b = some o) → h'.get? e = some (PySem.HandSPX.excO C t1) → Q .none ⟨h', g, d, t, os⟩) :
    wpAny (model prog w) A (call (.ref u) rest) Q E ⟨h, g, d, t, os⟩ := by
  refine wpAny_call (codeAny_of_tree ?_)
  show wpAny _ A.in1 (callAny (.ref u) ⟨rest, []⟩) _ _ _
  simp only [callAny]
  refine wpAny_bind (wpAny_load hu ?_)
  simp only [PySem.W.kxs_mw, show (Value.type "method-wrapper" == Value.type "method" || Value.type "method-wrapper" == Value.type "builtin_function_or_method" || Value.type "method-wrapper" == Value.type "method-wrapper") = true by decide, if_true]
  refine PySem.W.KFB.if_so (by decide) ?_
  refine wpAny_bind (PySem.ESX.check_bound PySem.F.excBase_ValueError hC he rfl ?_)
  refine wpAny_bind (wpAny_pure (wpAny_pure ?_))
  refine ⟨Code.quiet_builtin _ (by decide +kernel), codeAny_builtin PySem.F.excBase_ValueError.initEntry ?_⟩
  rw [Around.under_plainId PySem.F.excBase_ValueError.init.plain _]
  wp_walk
  refine k _ h.objs.size (fun b o hb ho => ?_) ?_
  · rw [Heap.get?_update_other _ _ (Ne.symm hb)]
    exact Heap.get?_push_of_some _ ho
  · rw [Heap.get?_update_self _ (Heap.get?_push_of_some _ he) rfl]
    rfl
end
section
variable {X : Cx} {pins : List (Addr × Obj)} {σ : L2.St} {H : Hp} {s : Shared} {a C u : Addr} {us : List Value} {Q : Value → Shared → Prop} {E : Value → Shared → Prop} {A : Around}
theorem mw_ok (T : OexC X.K C) (I : Inv X pins σ H s) (e : H a = some (exo a C none)) (hu : s.heap.get? u = some (PySem.W.kxs_mw "ValueError.__init__" a)) (hl : us.length ≤ sizeLine) (k : ∀ s', Inv X pins σ H s' → Q .none s') :
    wpAny (model X.prog X.w) A (call (.ref u) us) Q E s := by
  obtain ⟨nm, q, N, bs, bm, sn, sub, ab, col, dd, k0, k1, k2, k3, k5, hC, hbm⟩ := T.cls
  obtain ⟨t1, ho⟩ := exo_at I.hok e
  obtain ⟨hp, g, d, t, os⟩ := s
  refine mw_code (I.kIn _ _ hC) ho hu hl fun h' t2 keep hx => ?_
  have J := I.write (t' := t) (x := a) (e := a) (o := exo a C none) (by rw [e]; exact True.intro) (.inl rfl) keep ⟨_, hx⟩ (exo_ok hx)
  have eu : upd H a (exo a C none) = H := by
    funext b
    by_cases hb : b = a
    · rw [hb, upd_same, e]
    · rw [upd_ne hb]
  rw [eu] at J
  exact k _ J
end
end G0
namespace G0
open PySem PySem.Spec PyProof.Rows L2 NdefX
/-- super().__init__(..) of an own exception -/
def tSupX (K : PySem.W.Frag) (D : Addr) (ta : TA) : TS := fun Dn σ H => ∃ a C : Addr, σ[0]? = some (some (.ref a)) ∧ OexC K C ∧ H a = some (exo a C none) ∧ PySem.W.mroIn K C (.ref D) = some true ∧
  PySem.W.ks_superIn K C D "__init__" = some (some (.builtin "ValueError.__init__")) ∧ PySem.W.subIn K (.ref C) (.type "ValueError") = some true ∧
  ta σ H fun vs H1 => vs.length ≤ 1000 ∧ H1 a = some (exo a C none) ∧ Dn.nx σ H1
theorem p1_supX {CX : CXT} {P : Program} {w : World} {K : PySem.W.Frag} {mg : Str → Option Value} {base : Heap} {N : List Str}
    {f cc cda D : Addr} {name qual : Str} {params : Arguments} {st : List Stmt} {scope : Scope} {fd : FuncData}
    {A : Around} {outer : List Env} {s0 : Shared} {H0 : Hp} {E : XK} {p0 p1 ap pos pos' : Pos} {e : Expr} {es : List Expr} {ta : TA} {pl : Sem Bool}
    (F : SupF P K N f cc cda D fd params scope) (ha : PA (ncx CX P w K mg base N (nfS name qual params st scope cc cda) f A outer s0 H0 E) (e :: es) ta)
    (he : starEach (e :: es) (envF (nfS name qual params st scope cc cda) f s0.heap.objs.size) = (false, eval e (envF (nfS name qual params st scope cc cda) f s0.heap.objs.size)) :: starEach es (envF (nfS name qual params st scope cc cda) f s0.heap.objs.size) := by rfl)
    (hpl : (backTo pos (starEach es (envF (nfS name qual params st scope cc cda) f s0.heap.objs.size))).any (·.1) = false := by rfl)
    (hsw : swapsWith (.Call (.Attribute (.Call (.Name "super" p0) [] [] p1) "__init__" ap) (e :: es) [] pos) none pos'.line (envF (nfS name qual params st scope cc cda) f s0.heap.objs.size) = pure false := by rfl)
    (hev : eval (.Call (.Attribute (.Call (.Name "super" p0) [] [] p1) "__init__" ap) (e :: es) [] pos) (envF (nfS name qual params st scope cc cda) f s0.heap.objs.size) = (do
      let ov ← attributeBase (.Call (.Name "super" p0) [] [] p1) "__init__" (envF (nfS name qual params st scope cc cda) f s0.heap.objs.size) (eval (.Call (.Name "super" p0) [] [] p1) (envF (nfS name qual params st scope cc cda) f s0.heap.objs.size))
      standAt ap.atName
      let (f', first) ← holding [ov] (getMethod ov "__init__" pl)
      callWith pos f' first (backTo pos (starEach (e :: es) (envF (nfS name qual params st scope cc cda) f s0.heap.objs.size))) []) := by rfl) :
    P1 (ncx CX P w K mg base N (nfS name qual params st scope cc cda) f A outer s0 H0 E) st (.Expr (.Call (.Attribute (.Call (.Name "super" p0) [] [] p1) "__init__" ap) (e :: es) [] pos) pos') (tSupX K D ta) := by
  rintro pins s σ H Dn I ⟨a, C, hs, T, ea, hm, hsu, hve, q⟩
  obtain ⟨t0, ho⟩ := exo_at I.hok ea
  have J : PySem.W.InstAt s.heap a _ C none := ⟨ho, rfl, rfl, trivial⟩
  have fresh := I.hok.fresh (Nat.le_refl s.heap.objs.size)
  refine PySem.ks_wpAt_Expr_any (PySem.ks_wpAt_MethodCall (sup_node F I hs J hm (by decide) fun h' k e1 => ?_) hev) I.quiet hsw
  obtain ⟨hh, g, d, t, os⟩ := s
  have I1 : Inv (ncx CX P w K mg base N (nfS name qual params st scope cc cda) f A outer s0 H0 E) pins σ H ⟨h', g, d, t, os⟩ := I.kept (t' := t) k
  have X1 : K.In h' := I1.kIn
  obtain ⟨t1, ho1⟩ := exo_at I1.hok ea
  have J1 : PySem.W.InstAt h' a _ C none := ⟨ho1, rfl, rfl, trivial⟩
  have hI : PySem.W.Looks (model P w) h' (isInstance (.ref a) (.type "ValueError")) true := J1.type.andThen (PySem.W.looks_subIn X1 hve)
  cases hc : PySem.W.clsIn K C with
  | none => unfold PySem.W.ks_superIn at hsu; rw [hc] at hsu; cases hsu
  | some cd =>
    unfold PySem.W.ks_superIn at hsu
    rw [hc] at hsu
    refine PySem.W.kxs_getMethod PySem.W.kxs_ValueError e1 (PySem.W.looks_opaque X1 F.any_) (l₀ := cd.mro) (fun A Q E s k q => wpAny_bind ((PySem.W.looks_clsIn X1 hc) A _ E s k (wpAny_pure q))) rfl X1 hsu hI (PySem.W.ks_ne X1 J1 hc) (by decide) ?_
    have k2 : ∀ b o, h'.get? b = some o → (h'.push (PySem.W.kxs_mw "ValueError.__init__" a)).get? b = some o := fun b o e => Heap.get?_push_of_some _ e
    have I2 : Inv (ncx CX P w K mg base N (nfS name qual params st scope cc cda) f A outer s0 H0 E) pins σ H ⟨h'.push (PySem.W.kxs_mw "ValueError.__init__" a), g, d, t + 1, os⟩ := I1.kept (t' := t + 1) k2
    have pin : ∀ p ∈ pins ++ [(h'.objs.size, PySem.W.kxs_mw "ValueError.__init__" a)], (h'.push (PySem.W.kxs_mw "ValueError.__init__" a)).get? p.1 = some p.2 ∧ H p.1 = none ∧
        p.1 ≠ (envF (nfS name qual params st scope cc cda) f s0.heap.objs.size).locals ∧ p.1 ∉ frs outer ∧ ∀ v, p.2.data ≠ .cell v := by
      intro p hp
      rcases List.mem_append.mp hp with hp | hp
      · exact I2.pin p (List.mem_append_right _ hp)
      · rw [List.mem_singleton.mp hp]
        exact ⟨Heap.get?_push_at rfl rfl, I1.hok.fresh (Nat.le_refl _), fun z => absurd (Nat.lt_of_le_of_lt (Nat.le_of_eq z) I1.lt) (Nat.lt_irrefl _), I1.nofs (Nat.le_refl _), fun v z => by cases z⟩
    have I3 := I2.pins_of pin
    refine PySem.W.kxs_callWith1 (h₀ := base) (L := (envF (nfS name qual params st scope cc cda) f s0.heap.objs.size).locals) (news := [(h'.objs.size, PySem.W.kxs_mw "ValueError.__init__" a)]) (i := "ValueError.__init__") (x := a) ?_ (List.mem_singleton.mpr rfl) ?_ he hpl
    · intro p hp
      have hp := List.mem_singleton.mp hp
      subst hp
      refine ⟨Heap.get?_push_at rfl rfl, fun z => absurd (Nat.lt_of_le_of_lt (Nat.le_of_eq z) I1.lt) (Nat.lt_irrefl _), ?_⟩
      cases z : base.get? h'.objs.size with
      | none => rfl
      | some o => exact absurd (Heap.lt_size (I1.bk _ _ z)) (Nat.lt_irrefl _)
    · refine wpAny_mono (ha.run pos _ _ σ H _ I3 q) (fun us s3 got => ?_) fun e s' h => h
      obtain ⟨vs, H3, I4, r, vl, ea3, qn⟩ := got
      have hu := (I4.pin (h'.objs.size, PySem.W.kxs_mw "ValueError.__init__" a) (List.mem_append_right _ (List.mem_append_right _ (List.mem_singleton.mpr rfl)))).1
      refine ⟨hu, mw_ok T I4 ea3 hu (by rw [← r.length, sizeLine_eq]; omega) fun s' I5 => ?_⟩
      exact ⟨σ, H3, I5.unpinned, qn⟩
end G0
namespace G0
open PySem PySem.Spec PyProof.Rows L2 NdefX
/-- __init__ of an own exception: super().__init__('..'), then self.f = y -/
def spXI (C : Addr) (fld : Str) : Sp := fun vs H Q _ => ∃ (a : Addr) (y : V), vs = [.ref a, y] ∧ H a = some (exo a C none) ∧ ∀ dx, H dx = none → dx ≠ a → Q .non (upd (upd H dx (exd dx [(fld, y)])) a (exo a C (some dx)))
/-- what an own exception class asks -/
structure XcK (K : PySem.W.Frag) (C : Addr) (fld : Str) : Prop where
  T : OexC K C
  mro : PySem.W.mroIn K C (.ref C) = some true
  sup : PySem.W.ks_superIn K C C "__init__" = some (some (.builtin "ValueError.__init__"))
  ve : PySem.W.subIn K (.ref C) (.type "ValueError") = some true
  no : PySem.W.findIn K (.ref C) fld = some none
theorem ok_xinit {CX : CXT} {P : Program} {w : World} {K : PySem.W.Frag} {mg : Str → Option Value} {base : Heap}
    {f cc cda C : Addr} {name qual y fld m : Str} {params : Arguments} {scope : Scope} {dV kV doc pm ct oc cl : Value} {v : Option Value}
    {an od cld : Option Addr} {osl csl : Array (Option Value)} {p0 p1 ap mp pos pos' q0 q1 q2 q3 : Pos} {j : Nat}
    (lk : K.lookup f = some ⟨oc, od, .func (PySem.W.ksFn name qual params [.Expr (.Call (.Attribute (.Call (.Name "super" p0) [] [] p1) "__init__" ap) [.Constant (.str m) j mp] [] pos) pos',
      .Assign [.Attribute (.Name "self" q0) fld q1] (.Name y q2) q3] scope dV kV doc pm an (.ref cda) ct cc), osl⟩)
    (coded : PySem.W.codeIn K (.ref cda) qual = true) (lc : K.lookup cc = some ⟨cl, cld, .cell v, csl⟩)
    (S : NScope ["self", y, "__class__"] ["self", y] ["__class__"] scope) (X : XcK K C fld) (hy1 : (y == ("__debug__" : Str)) = false) (hy2 : (y == ("__classdict__" : Str)) = false)
    (hev : ∀ env : Env, ∃ pl : Sem Bool, eval (.Call (.Attribute (.Call (.Name "super" p0) [] [] p1) "__init__" ap) [.Constant (.str m) j mp] [] pos) env = (do
      let ov ← attributeBase (.Call (.Name "super" p0) [] [] p1) "__init__" env (eval (.Call (.Name "super" p0) [] [] p1) env)
      standAt ap.atName
      let (f', first) ← holding [ov] (getMethod ov "__init__" pl)
      callWith pos f' first (backTo pos (starEach [.Constant (.str m) j mp] env)) []))
    (hsw : ∀ env : Env, swapsWith (.Call (.Attribute (.Call (.Name "super" p0) [] [] p1) "__init__" ap) [.Constant (.str m) j mp] [] pos) none pos'.line env = pure false) (hs2 : ∀ env : Env, swapsWith (.Name y q2) (some (.Attribute (.Name "self" q0) fld q1)) q3.line env = pure false)
    (F : SupF P K ["self", y, "__class__"] f cc cda C (PySem.W.ksFn name qual params [.Expr (.Call (.Attribute (.Call (.Name "super" p0) [] [] p1) "__init__" ap) [.Constant (.str m) j mp] [] pos) pos',
      .Assign [.Attribute (.Name "self" q0) fld q1] (.Name y q2) q3] scope dV kV doc pm an (.ref cda) ct cc) params scope) :
    FnOk P w K mg base CX (0 + 1) f (PySem.W.ksFn name qual params [.Expr (.Call (.Attribute (.Call (.Name "super" p0) [] [] p1) "__init__" ap) [.Constant (.str m) j mp] [] pos) pos',
      .Assign [.Attribute (.Name "self" q0) fld q1] (.Name y q2) q3] scope dV kV doc pm an (.ref cda) ct cc) ["self", y] (spXI C fld) := by
  refine fnS_of lk coded lc S ?_ fun A outer s H vs Q E hr h => ?_
  · rintro vs H Q E ⟨a, z, rfl, _⟩
    rfl
  · obtain ⟨a, z, rfl, ea, q⟩ := h
    obtain ⟨pl, hpl⟩ := hev (envF (nfS name qual params [.Expr (.Call (.Attribute (.Call (.Name "super" p0) [] [] p1) "__init__" ap) [.Constant (.str m) j mp] [] pos) pos', .Assign [.Attribute (.Name "self" q0) fld q1] (.Name y q2) q3] scope cc cda) f s.heap.objs.size)
    refine ⟨_, _, p1_supX F (pa_cons pe_str pa_nil) (hsw := hsw _) (hev := hpl), pss_one (ps_ost (pv 0 (by rfl) (.inl (S.par _ (by simp)))) (pv 1 (by rfl) (.inl (S.par _ (by simp))) hy1 hy2) (hs2 _)), ?_⟩
    refine ⟨a, C, rfl, X.T, ea, X.mro, X.sup, X.ve, by show 1 ≤ 1000; decide, ea, ?_⟩
    exact ⟨_, rfl, _, rfl, a, C, rfl, X.T, X.no, .inl ⟨ea, fun dx h1 h2 => q dx h1 h2⟩⟩
end G0
namespace G0
open PySem PySem.Spec PyProof.Rows L2 NdefX
/-- raise X(e) -/
theorem ps_raiseX {X : Cx} {W : WX} {x y fld : Str} {C fI : Addr} {fd : FuncData} {p pos pos' : Pos} {e : Expr} {te : TE} (T : OexC X.K C) (iC : PySem.W.findIn X.K (.ref C) "__init__" = some (some (.ref fI)))
    (tI : PySem.W.typeIn X.K (.ref fI) = some (.type "function")) (F1 : FnOk X.prog X.w X.K X.mg X.base CX0 1 fI fd ["self", y] (spXI C fld)) (hb : Binds X.K fd ["self", y] []) (hr : Room 2 X.A)
    (hg : Gl X x) (hm : X.mg x = some (.ref C)) (hc : X.calm = true) (tk : Takes X W) (ha : PE X e te) (hdb : (x == ("__debug__" : Str)) = false := by decide)
    (he : starEach [e] X.env = (false, eval e X.env) :: starEach [] X.env := by rfl) (hpl : (backTo pos (starEach [] X.env)).any (·.1) = false := by rfl) :
    PS X (.Raise (some (.Call (.Name x p) [e] [] pos)) none pos') (fun _ σ H => tMkO C (spXI C fld) [] (tCons te tNil) σ H fun cls d H' => W cls d σ H') :=
  ps_raise hc tk (pmk_oex T iC tI F1 hr hb .nil pass0 hg hm (pa_cons (hs := he) ha pa_nil) hdb he hpl)
theorem xc_done {C : Addr} {fld : Str} {y : V} {H1 : Hp} {R : XK} (h : ∀ d, H1 d = none → R (.ref C) (some d) (upd H1 d (.xd [(fld, y)]))) :
    [y].length ≤ 1000 ∧ ∀ a, H1 a = none → spXI C fld (.ref a :: ([y] ++ [])) (upd H1 a (exo a C none))
      (fun v H2 => v = .non ∧ ∃ (d : Addr) (fs : List (Str × V)), H2 a = some (exo a C (some d)) ∧ H2 d = some (exd d fs) ∧ H1 d = none ∧ R (.ref C) (some d) (upd (del H2 a) d (.xd fs))) (fun _ _ _ => False) := by
  refine ⟨by show 1 ≤ 1000; decide, fun a ha => ⟨a, y, rfl, upd_same, fun dx h1 h2 => ?_⟩⟩
  have hd : H1 dx = none := by rw [upd_ne h2] at h1; exact h1
  refine ⟨rfl, dx, [(fld, y)], upd_same, by rw [upd_ne h2, upd_same], hd, ?_⟩
  have e : upd (del (upd (upd (upd H1 a (exo a C none)) dx (exd dx [(fld, y)])) a (exo a C (some dx))) a) dx (.xd [(fld, y)]) = upd H1 dx (.xd [(fld, y)]) := by
    funext b
    by_cases c : b = dx
    · subst c; rw [upd_same, upd_same]
    · rw [upd_ne c, upd_ne c]
      by_cases c2 : b = a
      · subst c2; rw [del_same, ha]
      · rw [del_ne c2, upd_ne c2, upd_ne c, upd_ne c2]
  rw [e]
  exact h dx hd
end G0
namespace G0
open PySem PySem.Spec PyProof.Rows L2 NdefX ClX
/-- super().__init__(..) of an instance of an own class, D's base giving a def -/
def tSupM (K : PySem.W.Frag) (D f2 : Addr) (sp : Sp) (ta : TA) : TS := fun Dn σ H => ∃ (a C dx : Addr) (fs : List (Str × V)), σ[0]? = some (some (.ref a)) ∧ H a = some (.ins C dx fs) ∧ PySem.W.mroIn K C (.ref D) = some true ∧
  PySem.W.ks_superIn K C D "__init__" = some (some (.ref f2)) ∧ PySem.W.typeIn K (.ref f2) = some (.type "function") ∧ PySem.W.fnIn K f2 = true ∧
  ta σ H fun vs H1 => sp (.ref a :: vs) H1 (fun _ H2 => Dn.nx σ H2) (fun _ _ _ => False)
theorem p1_supM {CX : CXT} {P : Program} {w : World} {K : PySem.W.Frag} {mg : Str → Option Value} {base : Heap} {N : List Str} {k2 : Nat} {sp : Sp}
    {f cc cda D f2 : Addr} {name qual : Str} {params : Arguments} {st : List Stmt} {scope : Scope} {fd : FuncData}
    {A : Around} {outer : List Env} {s0 : Shared} {H0 : Hp} {E : XK} {p0 p1 ap pos pos' : Pos} {e : Expr} {es : List Expr} {ta : TA} {pl : Sem Bool}
    (F : SupF P K N f cc cda D fd params scope) (F2 : FnR P w K mg base CX0 k2 f2 sp) (hr : Room k2 (A.deeper (envF (nfS name qual params st scope cc cda) f s0.heap.objs.size)))
    (ha : PA (ncx CX P w K mg base N (nfS name qual params st scope cc cda) f A outer s0 H0 E) (e :: es) ta)
    (he : starEach (e :: es) (envF (nfS name qual params st scope cc cda) f s0.heap.objs.size) = (false, eval e (envF (nfS name qual params st scope cc cda) f s0.heap.objs.size)) :: starEach es (envF (nfS name qual params st scope cc cda) f s0.heap.objs.size) := by rfl)
    (hpl : (backTo pos (starEach es (envF (nfS name qual params st scope cc cda) f s0.heap.objs.size))).any (·.1) = false := by rfl)
    (hsw : swapsWith (.Call (.Attribute (.Call (.Name "super" p0) [] [] p1) "__init__" ap) (e :: es) [] pos) none pos'.line (envF (nfS name qual params st scope cc cda) f s0.heap.objs.size) = pure false := by rfl)
    (hev : eval (.Call (.Attribute (.Call (.Name "super" p0) [] [] p1) "__init__" ap) (e :: es) [] pos) (envF (nfS name qual params st scope cc cda) f s0.heap.objs.size) = (do
      let ov ← attributeBase (.Call (.Name "super" p0) [] [] p1) "__init__" (envF (nfS name qual params st scope cc cda) f s0.heap.objs.size) (eval (.Call (.Name "super" p0) [] [] p1) (envF (nfS name qual params st scope cc cda) f s0.heap.objs.size))
      standAt ap.atName
      let (f', first) ← holding [ov] (getMethod ov "__init__" pl)
      callWith pos f' first (backTo pos (starEach (e :: es) (envF (nfS name qual params st scope cc cda) f s0.heap.objs.size))) []) := by rfl) :
    P1 (ncx CX P w K mg base N (nfS name qual params st scope cc cda) f A outer s0 H0 E) st (.Expr (.Call (.Attribute (.Call (.Name "super" p0) [] [] p1) "__init__" ap) (e :: es) [] pos) pos') (tSupM K D f2 sp ta) := by
  rintro pins s σ H Dn I ⟨a, C, dx, fs, hs, ea, hm, hsu, hty, hfn, q⟩
  obtain ⟨mA, OM, _⟩ := ins_get I.hok ea
  obtain ⟨od, J, _⟩ := OM.look
  refine PySem.ks_wpAt_Expr_any (PySem.ks_wpAt_MethodCall (sup_node F I hs J hm (by decide) fun h' k e1 => ?_) hev) I.quiet hsw
  obtain ⟨hh, g, d, t, os⟩ := s
  have I1 : Inv (ncx CX P w K mg base N (nfS name qual params st scope cc cda) f A outer s0 H0 E) pins σ H ⟨h', g, d, t, os⟩ := I.kept (t' := t) k
  have X1 : K.In h' := I1.kIn
  obtain ⟨mA1, OM1, _⟩ := ins_get I1.hok ea
  obtain ⟨od1, J1, _⟩ := OM1.look
  cases hc : PySem.W.clsIn K C with
  | none => unfold PySem.W.ks_superIn at hsu; rw [hc] at hsu; cases hsu
  | some cd =>
    unfold PySem.W.ks_superIn at hsu
    rw [hc] at hsu
    obtain ⟨of, hof, hofc⟩ : ∃ of, h'.get? f2 = some of ∧ of.cls = .type "function" := by
      have ht' : (K.lookup f2).map (·.cls) = some (.type "function") := hty
      cases z : K.lookup f2 with
      | none => rw [z] at ht'; cases ht'
      | some of => rw [z] at ht'; exact ⟨of, X1 _ _ z, Option.some.inj ht'⟩
    refine PySem.ks_wpAny_getMethod_super e1 (PySem.W.looks_opaque X1 F.any_) (l₀ := cd.mro) (fun A Q E s k q => wpAny_bind ((PySem.W.looks_clsIn X1 hc) A _ E s k (wpAny_pure q))) rfl X1 hsu hof hofc (PySem.W.ks_ne X1 J1 hc) (by decide) ?_
    have I3 := met_new (g := f2) (C := a) I1
    refine callwith_cm (C := a) (g := f2) I3 ?_ hfn ?_ he hpl
    · cases z : base.get? h'.objs.size with
      | none => exact z
      | some o => exact absurd (Heap.lt_size (I1.bk _ _ z)) (Nat.lt_irrefl _)
    · refine wpAny_mono (ha.run pos _ _ σ H _ I3 q) (fun us s3 got => ?_) fun e s' h => h
      obtain ⟨vs, H3, I4, r, qn⟩ := got
      refine ⟨⟨pin_at I4, I4.kIn⟩, ?_⟩
      refine wpAny_mono (run_cm F2 hr pass0 I4 r qn) (fun u s' z => ?_) fun e s' h => h
      obtain ⟨v, H', I5, _, qq⟩ := z
      exact ⟨σ, H', I5, qq⟩
end G0
namespace G0
open PySem PySem.Spec PyProof.Rows L2 NdefX ClX
def top (i : Nat) : Stmt := PySem.Challenge.pw_soleseat_k97_a_key_made_anew.main.body.getD i (.Pass ⟨0, 0, 0, 0⟩)
abbrev s_wall : Stmt := top 0
abbrev s_Seat__init : Stmt := inClass (top 2) 0
abbrev s_Seat_ask : Stmt := inClass (top 2) 1
abbrev s_Seat_leave : Stmt := inClass (top 2) 2
abbrev s_Seat_hear : Stmt := inClass (top 2) 3
abbrev s_Seat_gone : Stmt := inClass (top 2) 4
abbrev s_Key__init : Stmt := inClass (top 4) 0
abbrev s_Key_told : Stmt := inClass (top 4) 1
abbrev s_Key_serve : Stmt := inClass (top 4) 2
abbrev s_Key_renew : Stmt := inClass (top 4) 3
abbrev s_Key_line_up : Stmt := inClass (top 4) 4
abbrev s_Key_take_first : Stmt := inClass (top 4) 5
abbrev s_Key_is_due : Stmt := inClass (top 4) 6
abbrev s_Caller__init : Stmt := inClass (top 7) 0
abbrev s_Caller_ask : Stmt := inClass (top 7) 1
abbrev s_Caller_leave : Stmt := inClass (top 7) 2
abbrev s_Caller_hear : Stmt := inClass (top 7) 3
abbrev s_Caller_gone : Stmt := inClass (top 7) 4
abbrev s_Caller_bears : Stmt := inClass (top 7) 5
abbrev s_Caller_roster : Stmt := inClass (top 7) 6
abbrev s_Caller_numbers : Stmt := inClass (top 7) 7
abbrev s_Caller_awaits : Stmt := inClass (top 7) 8
abbrev s_Caller_to_others : Stmt := inClass (top 7) 9
abbrev s_Caller_learn : Stmt := inClass (top 7) 10
abbrev s_Caller_hear_ask : Stmt := inClass (top 7) 11
abbrev s_Caller_hear_key : Stmt := inClass (top 7) 12
abbrev s_Caller_hear_round : Stmt := inClass (top 7) 13
abbrev s_Caller_hear_pledge : Stmt := inClass (top 7) 14
abbrev s_Caller_begin : Stmt := inClass (top 7) 15
abbrev s_Caller_pledge : Stmt := inClass (top 7) 16
abbrev s_Caller_make_key : Stmt := inClass (top 7) 17
abbrev s_Caller_hand_on : Stmt := inClass (top 7) 18
abbrev s_law_cell_at : Stmt := top 9
abbrev s_law_bits : Stmt := top 10
abbrev s_law_turned : Stmt := top 11
abbrev s_law_gone_by : Stmt := top 12
abbrev s_law_heard : Stmt := top 13
abbrev s_law_marks_heard : Stmt := top 14
abbrev s_law_line : Stmt := top 15
abbrev s_law_made : Stmt := top 16
abbrev s_law_elder_heard : Stmt := top 17
abbrev s_law_pledges_heard : Stmt := top 18
abbrev s_law_alone : Stmt := top 19
abbrev s_law : Stmt := top 20
theorem u64 {k : Nat} {A : Around} (hr : Room k A) : A.units + 64 < cLine := by have := hr.un; omega
theorem dec_ii {a b : Int} : decide (V.int a = V.int b) = decide (a = b) := decide_eq_decide.mpr ⟨fun h => by cases h; rfl, fun h => by rw [h]⟩
theorem lc_yes {te : TE} {σ : L2.St} {H : Hp} {Q : VK} {B : Hp → Prop} (h : te σ H Q) : tYes σ H (fun b H3 => if b = true then te σ H3 Q else B H3) := by
  show (if true = true then te σ H Q else B H)
  exact iteT h
def tDead : TS := fun _ _ _ => False
theorem ps_dead {X : Cx} {st : Stmt} : PS X st tDead := ⟨fun _ _ _ _ _ _ h => h.elim⟩
/-- {k: v for .. in xs}, xs a list -/
theorem dc_list {K : PySem.W.Frag} {a : Addr} {xs : List V} {g : TG} {tt : TT} {tk tv : TE} {vs : List Nat} {σ : L2.St} {H1 : Hp} {D : Addr} {Qd : Hp → Prop} (Pv : Nat → Hp → Prop) (start : Pv 0 (upd H1 D (.dK []))) (stays : ∀ i G, Pv i G → SqL K G a xs)
    (step : ∀ i x G, xs[i]? = some x → Pv i G → g x (wipe σ vs) G fun σ2 H2 => wipe σ2 vs = wipe σ vs ∧ tt σ2 H2 fun b H3 =>
      if b = true then tk σ2 H3 fun y H4 => tv σ2 H4 fun z H5 => ∃ kvs k, y = kV k ∧ H5 D = some (.dK kvs) ∧ kvs.length < sizeLine ∧ Pv (i + 1) (upd H5 D (.dK (putK kvs k z))) else Pv (i + 1) H3) (fin : ∀ G, Pv xs.length G → Qd G) :
    ∃ W : Nat → Nat → Hp → Prop, (∃ m, W 0 m (upd H1 D (.dK []))) ∧ ∀ i m G, W i m G →
      ((Itl K a).stop i G ∧ Qd G) ∨ ((Itl K a).go i G ∧ ∃ Nx : Hp → Prop, (∀ G', Nx G' → ∃ m', m' < m ∧ W (i + 1) m' G') ∧ ∀ x G', (Itl K a).yld i G x G' → g x (wipe σ vs) G' fun σ2 H2 => wipe σ2 vs = wipe σ vs ∧ tt σ2 H2 fun b H3 =>
        if b = true then tk σ2 H3 fun y H4 => tv σ2 H4 fun z H5 => ∃ kvs k, y = kV k ∧ H5 D = some (.dK kvs) ∧ kvs.length < sizeLine ∧ Nx (upd H5 D (.dK (putK kvs k z))) else Nx H3) := by
  refine ⟨fun i m G => m + i = xs.length ∧ Pv i G, ⟨xs.length, rfl, start⟩, ?_⟩
  rintro i m G ⟨e, p⟩
  have sq := stays i G p
  rcases Nat.lt_or_ge i xs.length with lt | ge
  · refine .inr ⟨⟨xs, xs[i], sq, List.getElem?_eq_getElem lt⟩, Pv (i + 1), fun G' p' => ⟨m - 1, by omega, by omega, p'⟩, fun x G' told => ?_⟩
    obtain ⟨rfl, y⟩ := told
    exact step i x G' (y xs sq) p
  · have e' : i = xs.length := by omega
    subst e'
    exact .inl ⟨⟨xs, sq, Nat.le_refl _⟩, fin G p⟩
structure BlK71 (mg : Str → Option Value) : Prop where
  sorted : mg "sorted" = none
  tuple : mg "tuple" = none
def Me (P : Program) (w : World) (K : PySem.W.Frag) (mg : Str → Option Value) (base : Heap) (C : Addr) (x : Str) (k : Nat) (ps : List Str) (sp : Sp) : Prop :=
  ∃ f fd, FnOk P w K mg base CX0 k f fd ps sp ∧ Binds K fd ps [] ∧ Meth K C x f
section
variable {P : Program} {w : World} {K : PySem.W.Frag} {mg : Str → Option Value} {base : Heap} {C CK f : Addr} {fd : FuncData}
theorem two_dp {H : Hp} {x : V} {d1 d2 : PyData} (h : Dp K H x (.tuple [d1, d2])) : ∃ t v1 v2, x = .ref t ∧ SqT K H t [v1, v2] ∧ Dp K H v1 d1 ∧ Dp K H v2 d2 := by
  cases h with
  | tup hs ha =>
    cases ha with
    | cons h1 h2 =>
      cases h2 with
      | cons h3 h4 =>
        cases h4
        exact ⟨_, _, _, rfl, hs, h1, h3⟩
theorem dps_at {H : Hp} {vs : List V} {ds : List PyData} (h : DpAll K H vs ds) : ∀ {i : Nat} {v : V}, vs[i]? = some v → ∃ d, ds[i]? = some d ∧ Dp K H v d := by
  match vs, ds, h with
  | [], [], _ => intro i v e; simp at e
  | v :: vs, d :: ds, .cons h1 h2 =>
    intro i v' e
    cases i with
    | zero => exact ⟨d, rfl, by have : v = v' := by simpa using e
                                rw [← this]; exact h1⟩
    | succ i => exact dps_at h2 (by simpa using e)
theorem dps_at' {α : Type} {f : α → PyData} {H : Hp} {vs : List V} {L : List α} (h : DpAll K H vs (L.map f)) {i : Nat} {v : V} (e : vs[i]? = some v) : ∃ a, L[i]? = some a ∧ Dp K H v (f a) := by
  obtain ⟨d, e1, e2⟩ := dps_at h e
  rw [List.getElem?_map] at e1
  cases z : L[i]? with
  | none => rw [z] at e1; cases e1
  | some a =>
    rw [z] at e1
    cases e1
    exact ⟨a, rfl, e2⟩
theorem ints_at {ns : List Int} {i : Nat} {x : V} (h : (ns.map V.int)[i]? = some x) : ∃ k, ns[i]? = some k ∧ x = V.int k := by
  rw [List.getElem?_map] at h
  cases e : ns[i]? with
  | none => rw [e] at h; cases h
  | some k => rw [e] at h; exact ⟨k, rfl, (Option.some.inj h).symm⟩
/-! ### the key -/
def pairD (p : Int × Int) : PyData := .tuple [.int p.1, .int p.2]
def entI (p : Int × Int) : Key × V := (Sum.inl p.1, V.int p.2)
theorem noLs_pairs : ∀ S : List (Int × Int), noLs (S.map pairD) = true
  | [] => rfl
  | p :: S => by
    have := noLs_pairs S
    simp only [List.map_cons, noLs, pairD, noL, Bool.true_and]
    exact this
theorem ent_none {S : List (Int × Int)} {m : Int} (h : m ∉ S.map (·.1)) : valV (S.map entI) (Sum.inl m) = none := by
  induction S with
  | nil => rfl
  | cons p S ih =>
    rw [List.map_cons] at h
    rw [List.map_cons, valV_neg (fun e => h (by
      have : p.1 = m := Sum.inl.inj e
      rw [← this]; exact List.mem_cons_self ..))]
    exact ih fun z => h (List.mem_cons_of_mem _ z)
theorem ent_some {S : List (Int × Int)} {p : Int × Int} (nd : (S.map (·.1)).Nodup) (m : p ∈ S) : valV (S.map entI) (Sum.inl p.1) = some (.int p.2) := by
  induction S with
  | nil => simp at m
  | cons q S ih =>
    rw [List.map_cons] at nd ⊢
    obtain ⟨n1, n2⟩ := List.nodup_cons.mp nd
    rcases List.mem_cons.mp m with e | m
    · subst e
      exact valV_pos rfl
    · rw [valV_neg (fun e => n1 (by
        have : q.1 = p.1 := Sum.inl.inj e
        rw [this]; exact List.mem_map_of_mem m))]
      exact ih n2 m
structure KeyT (K : PySem.W.Frag) (C : Addr) : Prop where
  cl : Cls K C
  round : NoAttr K C "round"
  served : NoAttr K C "_served"
  line : NoAttr K C "_line"
structure KeyAt (H : Hp) (CK k dk : Addr) (r : Int) (d l : Addr) (S : List (Int × Int)) (ns : List Int) : Prop where
  hp : H k = some (.ins CK dk (keF r d l))
  hd : H d = some (.dK (S.map entI))
  hl : H l = some (.lst (ns.map V.int))
  nd : (S.map (·.1)).Nodup
  few : S.length ≤ 60
  few2 : ns.length ≤ 1000
theorem KeyAt.same {H H' : Hp} {k dk : Addr} {r : Int} {d l : Addr} {S : List (Int × Int)} {ns : List Int} (A : KeyAt H CK k dk r d l S ns) (s : Same H H') : KeyAt H' CK k dk r d l S ns :=
  { A with hp := s _ _ A.hp, hd := s _ _ A.hd, hl := s _ _ A.hl }
theorem yes_ite {σ : L2.St} {H : Hp} {A B : Hp → Prop} (h : A H) : tYes σ H (fun b H3 => if b = true then A H3 else B H3) := by
  show (if true = true then A H else B H)
  exact iteT h
theorem sql_chgI {H H' : Hp} {q D dx : Addr} {fs : List (Str × V)} (hq : H q = some (.ins D dx fs)) (c : Chg q H H') {a : Addr} {xs : List V} (h : SqL K H a xs) : SqL K H' a xs := by
  rcases h with (z | ⟨o, z⟩) | z
  · exact .inl (.inl (c _ _ (ne_of z hq (by intro y; cases y)) z))
  · exact .inl (.inr ⟨o, c _ _ (ne_of z hq (by intro y; cases y)) z⟩)
  · exact .inr z
theorem sqt_chgI {H H' : Hp} {q D dx : Addr} {fs : List (Str × V)} (hq : H q = some (.ins D dx fs)) (c : Chg q H H') {a : Addr} {xs : List V} (h : SqT K H a xs) : SqT K H' a xs := by
  rcases h with (z | ⟨o, z⟩) | z
  · exact .inl (.inl (c _ _ (ne_of z hq (by intro y; cases y)) z))
  · exact .inl (.inr ⟨o, c _ _ (ne_of z hq (by intro y; cases y)) z⟩)
  · exact .inr z
mutual
theorem dp_chgI {H H' : Hp} {q D dx : Addr} {fs : List (Str × V)} (hq : H q = some (.ins D dx fs)) (c : Chg q H H') : ∀ (d : PyData) (v : V), Dp K H v d → Dp K H' v d
  | .none, _, h => by cases h; exact .non
  | .bool _, _, h => by cases h; exact .bl _
  | .int _, _, h => by cases h; exact .int _
  | .str _, _, h => by cases h; exact .str _
  | .dict _, _, h => by cases h
  | .list ds, _, h => by
    cases h with
    | lst hs ha => exact .lst (sql_chgI hq c hs) (dps_chgI hq c ds _ ha)
  | .tuple ds, _, h => by
    cases h with
    | tup hs ha => exact .tup (sqt_chgI hq c hs) (dps_chgI hq c ds _ ha)
theorem dps_chgI {H H' : Hp} {q D dx : Addr} {fs : List (Str × V)} (hq : H q = some (.ins D dx fs)) (c : Chg q H H') : ∀ (ds : List PyData) (vs : List V), DpAll K H vs ds → DpAll K H' vs ds
  | [], _, h => by cases h; exact .nil
  | d :: ds, _, h => by
    cases h with
    | cons h1 h2 => exact .cons (dp_chgI hq c d _ h1) (dps_chgI hq c ds _ h2)
end
def spKInit (K : PySem.W.Frag) (CK : Addr) : Sp := fun vs H Q _ => ∃ (p dx sv ln : Addr) (r : Int) (ys : List V) (S : List (Int × Int)) (ns : List Int), vs = [.ref p, .int r, .ref sv, .ref ln] ∧ H p = some (.ins CK dx []) ∧ SqL K H sv ys ∧ DpAll K H ys (S.map pairD) ∧ SqL K H ln (ns.map V.int) ∧
  (S.map (·.1)).Nodup ∧ S.length ≤ 60 ∧ ns.length ≤ 1000 ∧ ∀ d l H', H d = none → H l = none → d ≠ p → l ≠ p → d ≠ l → Chg p H H' → KeyAt H' CK p dx r d l S ns → Q .non H'
theorem keF_made0 (r : Int) (d l : Addr) : putF "_line" (.ref l) (putF "_served" (.ref d) (putF "round" (.int r) [])) = keF r d l := keF_made r d l
theorem sc_Key__init : FnScope ["self", "of_round", "served", "line", "member", "number"] ["self", "of_round", "served", "line"] (defScope s_Key__init) :=
  ⟨rfl, rfl, rfl, by decide +kernel, rfl, by decide +kernel, by decide +kernel⟩
theorem ok_kinit (F : Fun K "__init__" "Key.__init__" s_Key__init f fd) (hL : mg "list" = none) (T : KeyT K CK) : FnOk P w K mg base CX0 1 f fd ["self", "of_round", "served", "line"] (spKInit K CK) := by
  refine F.ok sc_Key__init (fun vs H Q E h => ?_) (fun cdv A outer s H vs Q E hr h => ?_)
  · obtain ⟨p, dx, sv, ln, r, ys, S, ns, rfl, _⟩ := h
    rfl
  obtain ⟨p, dx, sv, ln, r, ys, S, ns, rfl, hp, qS, dS, qL, nd, l60, l2, q⟩ := h
  refine ⟨_, (pss_cons (ps_fld (pv 0) (pv 1) rfl)
    (pss_cons (ps_fld (pv 0) (pe_dc (own := [("member", 4), ("number", 5)]) (g := gTup K 2 (gCons (gName 4) (gCons (gName 5) gNil))) (tt := tYes) (by rfl) sc_Key__init.nd (pi_list (pv 2)) (blkOk_by (N := ["self", "of_round", "served", "line", "member", "number"]) (sc := defScope s_Key__init) (by decide +kernel)) (fun _ _ _ _ _ => pg_tup (by rfl) (pgs_cons (pg_name (i := 4) sc_Key__init.nd rfl (Or.inl rfl)) (pgs_cons (pg_name (i := 5) sc_Key__init.nd rfl (Or.inl rfl)) pgs_nil))) (fun _ _ _ _ _ => pts_nil) (fun _ _ _ _ _ => (pv 4)) (fun _ _ _ _ _ => (pv 5))) rfl)
    (pss_one (ps_fld (pv 0) (pe_callTy call_list_of (by rfl) hL (by decide +kernel) (pa_cons (pv 3) pa_nil)) rfl)))), ?_⟩
  refine ⟨_, rfl, _, rfl, p, CK, dx, _, rfl, hp, T.cl, T.round, (by show 0 < 1000; decide), ?_⟩
  obtain ⟨H1, e1⟩ : ∃ H1, H1 = upd H p (.ins CK dx (putF "round" (.int r) [])) := ⟨_, rfl⟩
  have c1 : Chg p H H1 := by rw [e1]; exact Chg.self
  have hp1 : H1 p = some (.ins CK dx (putF "round" (.int r) [])) := by rw [e1]; exact upd_same
  rw [← e1]
  have qS1 := sql_chgI hp c1 qS
  have dS1 := dps_chgI hp c1 _ _ dS
  have lS : ys.length = S.length := by rw [dps_len dS, List.length_map]
  refine ⟨_, rfl, sv, rfl, ⟨_, qS1⟩, fun D hD => ?_⟩
  refine dc_list (K := K) (a := sv) (xs := ys) (fun i G => Same H1 G ∧ G D = some (.dK ((S.take i).map entI))) ⟨same_upd hD, upd_same⟩ (fun i G h => h.1.seq qS1) ?_ ?_
  · rintro i x G hx ⟨sG, kD⟩
    obtain ⟨pr, er, dp⟩ := dps_at' dS1 hx
    have li := (List.getElem?_eq_some_iff.mp er).1
    obtain ⟨t, v1, v2, rfl, qt, d1, d2⟩ := two_dp dp
    cases d1
    cases d2
    refine ⟨t, _, rfl, sqt_same sG qt, rfl, _, _, rfl, _, _, rfl, rfl, rfl, yes_ite ?_⟩
    refine ⟨_, rfl, _, rfl, _, Sum.inl pr.1, rfl, kD, ?_, fun b o e => ?_, ?_⟩
    · rw [List.length_map]
      refine Nat.lt_of_le_of_lt (List.length_take_le _ _) (Nat.lt_of_lt_of_le (show i < 100 by omega) (by decide))
    · rw [upd_ne (ne_of_none e hD)]
      exact sG _ _ e
    · have nin : pr.1 ∉ (S.take i).map (·.1) := fun z => by
        rw [List.map_take] at z
        obtain ⟨j, lj, ej⟩ := List.mem_take_iff_getElem.mp z
        have lj' : j < i := by omega
        have h2 : (S.map (·.1))[i]? = some pr.1 := by rw [List.getElem?_map, er]; rfl
        have h1 : (S.map (·.1))[j]? = some pr.1 := by rw [List.getElem?_eq_getElem (by omega), ej]
        have := (List.getElem?_inj (by rw [List.length_map]; omega) nd).mp (h1.trans h2.symm)
        omega
      rw [putK_new _ (ent_none nin), List.take_succ, er, List.map_append]
      exact upd_same
  rintro G ⟨sG, kD⟩
  rw [lS, List.take_length] at kD
  have hpG := sG _ _ hp1
  have Dp : D ≠ p := (ne_of_none hp1 hD).symm
  refine ⟨_, rfl, p, CK, dx, _, rfl, hpG, T.cl, T.served, (by show 1 < 1000; decide), ?_⟩
  obtain ⟨H2, e2⟩ : ∃ H2, H2 = upd G p (.ins CK dx (putF "_served" (.ref D) (putF "round" (.int r) []))) := ⟨_, rfl⟩
  rw [← e2]
  have c2 : Chg p H H2 := fun b o nb e => by
    rw [e2, upd_ne nb]
    exact sG _ _ (c1 _ _ nb e)
  have hp2 : H2 p = some (.ins CK dx (putF "_served" (.ref D) (putF "round" (.int r) []))) := by rw [e2]; exact upd_same
  have kD2 : H2 D = some (.dK (S.map entI)) := by rw [e2, upd_ne Dp]; exact kD
  refine ⟨_, rfl, ln, _, rfl, .inl (sql_chgI hp c2 qL), fun l hl => ?_⟩
  have lp : l ≠ p := (ne_of_none hp2 hl).symm
  have lD : D ≠ l := ne_of_none kD2 hl
  refine ⟨_, rfl, p, CK, dx, _, rfl, (upd_ne lp.symm).trans hp2, T.cl, T.line, (by show 2 < 1000; decide), ?_⟩
  rw [keF_made0]
  have back : ∀ {x : Addr}, x ≠ p → H2 x = none → H x = none := fun n h => by
    cases z : H _ with
    | none => rfl
    | some o => rw [c2 _ _ n z] at h; cases h
  have D0 : H D = none := by
    cases z : H D with
    | none => rfl
    | some o => rw [c1 _ _ Dp z] at hD; cases hD
  refine q D l _ D0 (back lp hl) Dp lp lD (fun b o nb e => ?_) ⟨upd_same, ?_, ?_, nd, l60, l2⟩
  · rw [upd_ne nb, upd_ne (ne_of_none (c2 _ _ nb e) hl)]
    exact c2 _ _ nb e
  · rw [upd_ne Dp, upd_ne lD]; exact kD2
  · rw [upd_ne lp]; exact upd_same
/-! ### told -/
def toldD (r : Int) (S : List (Int × Int)) (ns : List Int) : PyData := .tuple [.int r, .tuple (S.map pairD), .tuple (ns.map PyData.int)]
def spTold (K : PySem.W.Frag) (CK : Addr) : Sp := fun vs H Q _ => ∃ (k dk : Addr) (r : Int) (d l : Addr) (S : List (Int × Int)) (ns : List Int), vs = [.ref k] ∧ KeyAt H CK k dk r d l S ns ∧
  ∀ (t : Addr) (S' : List (Int × Int)) H', Same H H' → S'.Perm S → (S'.map (·.1)).Pairwise (· ≤ ·) → Dp K H' (.ref t) (toldD r S' ns) → Q (.ref t) H'
def valI (S : List (Int × Int)) (m : Int) : Int := match valV (S.map entI) (Sum.inl m) with | some (.int v) => v | _ => 0
theorem back_perm {S : List (Int × Int)} (nd : (S.map (·.1)).Nodup) {ks : List Int} (pe : ks.Perm (S.map (·.1))) : (ks.map fun m => (m, valI S m)).Perm S := by
  have e : (S.map (·.1)).map (fun m => (m, valI S m)) = S := by
    rw [List.map_map]
    refine (List.map_congr_left (g := id) fun p hp => ?_).trans (List.map_id S)
    show (p.1, valI S p.1) = p
    unfold valI
    rw [ent_some nd hp]
  have := pe.map (fun m => (m, valI S m))
  rwa [e] at this
theorem lc_intsP {K : PySem.W.Frag} {H : Hp} : True := trivial
theorem sc_Key_told : FnScope ["self", "served", "member"] ["self"] (defScope s_Key_told) :=
  ⟨rfl, rfl, rfl, by decide +kernel, rfl, by decide +kernel, by decide +kernel⟩
theorem ok_told (F : Fun K "told" "Key.told" s_Key_told f fd) (T : BlK71 mg) (KT : KeyT K CK) : FnOk P w K mg base CX0 1 f fd ["self"] (spTold K CK) := by
  refine F.ok sc_Key_told (fun vs H Q E h => ?_) (fun cdv A outer s H vs Q E hr h => ?_)
  · obtain ⟨k, dk, r, d, l, S, ns, rfl, _⟩ := h
    rfl
  obtain ⟨k, dk, r, d, l, S, ns, rfl, A0, q⟩ := h
  refine ⟨_, (pss_cons (ps_set (i := 1) sc_Key_told.nd rfl (Or.inl rfl) (pe_callTy call_tuple_of (by rfl) T.tuple (by decide +kernel) (pa_cons (pe_lc (own := [("member", 2)]) (g := gName 2) (tt := tYes) (by rfl) sc_Key_told.nd (pi_list (pe_callB (call_sortedDI (by rfl)) (by rfl) T.sorted (by decide +kernel) (pa_cons (pe_fld (pv 0) (by rfl)) pa_nil))) (blkOk_by (N := ["self", "served", "member"]) (sc := defScope s_Key_told) (by decide +kernel)) (fun _ _ _ _ _ => pg_name (i := 2) sc_Key_told.nd rfl (Or.inl rfl)) (fun _ _ _ _ _ => pts_nil) (fun _ _ _ _ _ => (pe_tup (pa_cons (pv 2) (pa_cons (pe_dget (hu_of hr) (pe_fldK K (pv 0)) (pv 2) (fun _ _ => rfl)) pa_nil))))) pa_nil)))
    (pss_one (ps_ret (pe_tup (pa_cons (pe_fld (pv 0) (by rfl)) (pa_cons (pv 1) (pa_cons (pe_callTy call_tuple_of (by rfl) T.tuple (by decide +kernel) (pa_cons (pe_fld (pv 0) (by rfl)) pa_nil)) pa_nil))))))), ?_⟩
  refine ⟨_, rfl, k, CK, dk, _, _, rfl, A0.hp, KT.cl, KT.served, keF_srv _ _ _, d, _, S.map (·.1), rfl, .inl A0.hd, ?_, ?_, fun ks p pe up hp => ?_⟩
  · rw [List.map_map, List.map_map]
    rfl
  · rw [List.length_map]
    have := A0.few
    omega
  have s1 := same_upd (o := .lst (ks.map V.int)) hp
  have lk : ks.length ≤ 60 := by rw [pe.length_eq, List.length_map]; exact A0.few
  refine ⟨p, rfl, ⟨_, SqL.of upd_same⟩, fun D hD => ?_⟩
  refine lc_list (K := K) (a := p) (xs := ks.map V.int) (fun i G => Same (upd H p (.lst (ks.map V.int))) G ∧ ∃ zs, zs.length = i ∧ G D = some (.lst zs) ∧ DpAll K G zs (((ks.take i).map fun m => (m, valI S m)).map pairD)) ⟨same_upd hD, [], rfl, upd_same, .nil⟩ (fun i G _ h => SqL.of (h.1 _ _ upd_same)) ?_ ?_
  · rintro i x G hx ⟨sG, zs, lz, kD, dz⟩
    obtain ⟨m, em, rfl⟩ := ints_at hx
    have li := (List.getElem?_eq_some_iff.mp em).1
    have AG := (A0.same s1).same sG
    have ms : m ∈ S.map (·.1) := pe.mem_iff.mp (List.mem_of_getElem? em)
    obtain ⟨pr, hpr, rfl⟩ := List.mem_map.mp ms
    have ev := ent_some A0.nd hpr
    have ev2 : valI S pr.1 = pr.2 := by unfold valI; rw [ev]
    refine ⟨rfl, lc_yes ?_⟩
    refine ⟨_, rfl, _, rfl, k, CK, dk, _, _, rfl, AG.hp, KT.cl, KT.served, keF_srv _ _ _, _, rfl, d, _, rfl, (by rw [← ev]; exact DGet.k (k := Sum.inl pr.1) AG.hd), by show 2 ≤ sizeLine; decide, fun u hu => ?_⟩
    have s3 := same_upd (o := .tup [.int pr.1, .int pr.2]) hu
    have kD3 := s3 _ _ kD
    refine ⟨_, kD3, Nat.lt_of_lt_of_le (show zs.length < 100 by omega) (by decide), fun c o e => ?_, zs ++ [.ref u], by rw [List.length_append, lz]; rfl, upd_same, ?_⟩
    · rw [upd_ne (ne_of_none e hD)]
      exact s3 _ _ (sG _ _ e)
    · refine dps_chg ⟨_, kD3⟩ Chg.self _ _ (noLs_pairs _) ?_
      rw [List.take_succ, em, List.map_append, List.map_append]
      refine dps_app (dps_same s3 _ _ dz) (.cons (.tup (SqT.of upd_same) (.cons (.int _) (.cons ?_ .nil))) .nil)
      show Dp K _ (V.int pr.2) (PyData.int (valI S pr.1))
      rw [ev2]
      exact .int _
  rintro G ⟨sG, zs, lz, kD, dz⟩
  rw [List.length_map, List.take_length] at dz
  have AG := (A0.same s1).same sG
  refine ⟨D, zs, rfl, .inl ⟨SqL.of kD, fun u hu => ?_⟩⟩
  have s4 := same_upd (o := .tup zs) hu
  have A4 := AG.same s4
  refine ⟨_, rfl, k, CK, dk, _, _, rfl, A4.hp, KT.cl, KT.round, keF_rnd _ _ _, _, rfl, _, rfl, k, CK, dk, _, _, rfl, A4.hp, KT.cl, KT.line, keF_lin _ _ _, l, _, rfl, .inl ⟨SqL.of A4.hl, fun v hv => ?_⟩⟩
  have s5 := same_upd (o := .tup (ns.map V.int)) hv
  refine ⟨by show 3 ≤ sizeLine; decide, fun t ht => ?_⟩
  have s6 := same_upd (o := .tup [.int r, .ref u, .ref v]) ht
  refine q t (ks.map fun m => (m, valI S m)) _ ((((s1.trans sG).trans s4).trans s5).trans s6) (back_perm A0.nd pe) ?_ ?_
  · rw [List.map_map]
    have e : ((fun x : Int × Int => x.1) ∘ fun m => (m, valI S m)) = id := rfl
    rw [e, List.map_id]
    exact up
  · exact .tup (SqT.of upd_same) (.cons (.int _) (.cons (.tup (SqT.of (s6 _ _ (s5 _ _ upd_same))) (dps_same ((s4.trans s5).trans s6) _ _ dz)) (.cons (.tup (SqT.of (s6 _ _ upd_same)) (dps_ints _)) .nil)))
end

end G0
namespace G0
open PySem PySem.Spec PyProof.Rows L2 NdefX ClX
section
variable {P : Program} {w : World} {K : PySem.W.Frag} {mg : Str → Option Value} {base : Heap} {C CK f : Addr} {fd : FuncData}
/-! ### Seat.__init__, of an object of a class under it -/
def seatG (m : Int) : List (Str × V) := [("me", .int m), ("state", .str "out"), ("sits", .bl false)]
theorem seatG_made (m : Int) : putF "sits" (.bl false) (putF "state" (.str "out") (putF "me" (.int m) [])) = seatG m := by
  simp only [putF, seatG, n_caF_me_stt, n_caF_me_sits, n_caF_stt_sits, if_false, if_true]
def spSeat0 (C : Addr) : Sp := fun vs H Q _ => ∃ (p dx : Addr) (m : Int), vs = [.ref p, .int m] ∧ H p = some (.ins C dx []) ∧ Q .non (upd H p (.ins C dx (seatG m)))
theorem sc_Seat__init : FnScope ["self", "me"] ["self", "me"] (defScope s_Seat__init) :=
  ⟨rfl, rfl, rfl, by decide +kernel, rfl, by decide +kernel, by decide +kernel⟩
theorem ok_seat0 {f : Addr} {fd : FuncData} (F : Fun K "__init__" "Seat.__init__" s_Seat__init f fd) (c : Cls K C) (n1 : NoAttr K C "me") (n2 : NoAttr K C "state") (n3 : NoAttr K C "sits") : FnOk P w K mg base CX0 1 f fd ["self", "me"] (spSeat0 C) := by
  refine F.ok sc_Seat__init (fun vs H Q E h => ?_) (fun cdv A outer s H vs Q E hr h => ?_)
  · obtain ⟨p, dx, m, rfl, _⟩ := h
    rfl
  obtain ⟨p, dx, m, rfl, hp, q⟩ := h
  refine ⟨_, (pss_cons (ps_fld (pv 0) (pv 1) rfl)
    (pss_cons (ps_fld (pv 0) pe_str rfl)
    (pss_one (ps_fld (pv 0) pe_bl rfl)))), ?_⟩
  refine ⟨_, rfl, _, rfl, p, C, dx, _, rfl, hp, c, n1, (by show 0 < 1000; decide), ?_⟩
  refine ⟨_, rfl, p, C, dx, _, rfl, upd_same, c, n2, (by show 1 < 1000; decide), ?_⟩
  refine ⟨_, rfl, p, C, dx, _, rfl, upd_same, c, n3, (by show 2 < 1000; decide), ?_⟩
  rw [upd_upd, upd_upd, seatG_made]
  exact q
theorem fnR_of {k : Nat} {f : Addr} {fd : FuncData} {ps : List Str} {sp : Sp} (F : FnOk P w K mg base CX0 k f fd ps sp) (b : Binds K fd ps []) : FnR P w K mg base CX0 k f sp :=
  fun A outer s H us vs Q E hr e0 r h => by
    have hl : (us ++ []).length = ps.length := by rw [List.append_nil, ← r.length]; exact F.len _ _ _ _ h
    have KX : K.In s.heap := e0.mod.kin.keeps fun b o z => (e0.bs b o z).1
    have bt := b s us KX hl
    rw [List.append_nil] at bt
    exact F.run A outer s H ⟨us, []⟩ us vs Q E hr e0 bt r h
/-! ### a caller -/
structure BlC71 (mg : Str → Option Value) : Prop where
  len : mg "len" = none
  range : mg "range" = none
  list : mg "list" = none
  tuple : mg "tuple" = none
  sorted : mg "sorted" = none
  isinstance : mg "isinstance" = none
  int : mg "int" = none
  bool : mg "bool" = none
structure CalT (K : PySem.W.Frag) (C : Addr) : Prop where
  cl : Cls K C
  me : NoAttr K C "me"
  state : NoAttr K C "state"
  sits : NoAttr K C "sits"
  round : NoAttr K C "round"
  roster : NoAttr K C "_roster"
  numbers : NoAttr K C "_numbers"
  key : NoAttr K C "_key"
  begun : NoAttr K C "_begun"
  pledges : NoAttr K C "_pledges"
structure CalAt (H : Hp) (C q dx : Addr) (me : Int) (st : Str) (rnd : Int) (ro nu : Addr) (key bg : V) (pl : Addr) (rs ms : List Int) (ps : List (Key × V)) : Prop where
  hp : H q = some (.ins C dx (caF me st false rnd ro nu key bg pl))
  hr : H ro = some (.lst (rs.map V.int))
  hn : H nu = some (.lst (ms.map V.int))
  hpl : H pl = some (.dK ps)
theorem CalAt.same {H H' : Hp} {q dx : Addr} {me : Int} {st : Str} {rnd : Int} {ro nu : Addr} {key bg : V} {pl : Addr} {rs ms : List Int} {ps : List (Key × V)} (A : CalAt H C q dx me st rnd ro nu key bg pl rs ms ps) (s : Same H H') : CalAt H' C q dx me st rnd ro nu key bg pl rs ms ps :=
  ⟨s _ _ A.hp, s _ _ A.hr, s _ _ A.hn, s _ _ A.hpl⟩
def rangeI (n : Int) : List Int := (List.range n.toNat).map fun x : Nat => (x : Int)
def zeros (n : Int) : List Int := List.replicate n.toNat 0
def freshS (n : Int) : List (Int × Int) := (rangeI n).map fun m => (m, 0)
/-- the key of a new caller: none, or that of round 0 -/
def FreshKey (H : Hp) (CK : Addr) (n : Int) (key : V) (b : Bool) (Z : Addr → Prop) : Prop := if b = true then ∃ k dk d l, key = .ref k ∧ KeyAt H CK k dk 0 d l (freshS n) [] ∧ Z l else key = .non
theorem FreshKey.same {H H' : Hp} {n : Int} {key : V} {b : Bool} {Z : Addr → Prop} (h : FreshKey H CK n key b Z) (s : Same H H') : FreshKey H' CK n key b Z := by
  unfold FreshKey at h ⊢
  cases b with
  | true =>
    rw [if_pos rfl] at h ⊢
    obtain ⟨k, dk, d, l, e, A, z⟩ := h
    exact ⟨k, dk, d, l, e, A.same s, z⟩
  | false => exact h
theorem caF_end (m : Int) (ro nu : Addr) (key : V) (pl : Addr) : putF "_pledges" (.ref pl) (putF "_begun" .non (putF "_key" key (putF "_numbers" (.ref nu) (putF "_roster" (.ref ro) (putF "round" (.int 0) (seatG m)))))) = caF m "out" false 0 ro nu key .non pl :=
  caF_made m "out" false 0 ro nu key .non pl
theorem FreshKey.imp {H : Hp} {n : Int} {key : V} {b : Bool} {Z : Addr → Prop} (h : FreshKey H CK n key b Z) : FreshKey H CK n key b (fun _ => True) := by
  unfold FreshKey at h ⊢
  cases b with
  | true =>
    rw [if_pos rfl] at h ⊢
    obtain ⟨k, dk, d, l, e, A, z⟩ := h
    exact ⟨k, dk, d, l, e, A, trivial⟩
  | false => exact h
theorem putF_twice (x : Str) (a b : V) (fs : List (Str × V)) : putF x b (putF x a fs) = putF x b fs := by
  induction fs with
  | nil => simp [putF]
  | cons p fs ih =>
    obtain ⟨y, v⟩ := p
    by_cases c : y = x
    · simp [putF, c]
    · simp only [putF, c, if_false, ih]
theorem rgV_range {n : Int} : rgV 0 n = (rangeI n).map V.int := by
  unfold rgV rangeI
  rw [List.map_map, Int.sub_zero]
  refine List.map_congr_left fun i _ => ?_
  show V.int (0 + (i : Int)) = V.int (i : Int)
  rw [Int.zero_add]
theorem flat_zero : ∀ k : Nat, (List.replicate k [V.int 0]).flatten = (List.replicate k (0 : Int)).map V.int
  | 0 => rfl
  | k + 1 => by
    rw [List.replicate_succ, List.flatten_cons, flat_zero k, List.replicate_succ, List.map_cons]
    rfl
theorem rangeI_len {n : Int} : (rangeI n).length = n.toNat := by unfold rangeI; rw [List.length_map, List.length_range]
theorem freshS_fst (n : Int) : (freshS n).map (·.1) = rangeI n := by
  unfold freshS
  rw [List.map_map]
  exact List.map_id _
theorem rangeI_nd (n : Int) : (rangeI n).Nodup := List.pairwise_map.mpr (List.Pairwise.imp (fun h e => h (by omega)) List.nodup_range)
theorem KeyAt.chg {H H' : Hp} {k dk p D dx : Addr} {fs : List (Str × V)} {r : Int} {d l : Addr} {S : List (Int × Int)} {ns : List Int} (A : KeyAt H CK k dk r d l S ns) (hp : H p = some (.ins D dx fs)) (n : k ≠ p) (c : Chg p H H') : KeyAt H' CK k dk r d l S ns :=
  { A with hp := c _ _ n A.hp, hd := c _ _ (ne_of A.hd hp (by intro z; cases z)) A.hd, hl := c _ _ (ne_of A.hl hp (by intro z; cases z)) A.hl }
def spCInit (K : PySem.W.Frag) (C CK : Addr) : Sp := fun vs H Q _ => ∃ (p dx : Addr) (m n a : Int), vs = [.ref p, .int m, .int n, .int a] ∧ H p = some (.ins C dx []) ∧ 1 ≤ n ∧ n ≤ 60 ∧
  ∀ (ro nu pl : Addr) (key : V) H', Chg p H H' → H ro = none → H nu = none → H pl = none → CalAt H' C p dx m "out" 0 ro nu key .non pl (rangeI n) (zeros n) [] → FreshKey H' CK n key (decide (m = a)) (fun l => H l = none) → Q .non H'
/-- the last two fields -/
theorem cinit_end {H G : Hp} {p dx ro nu pl : Addr} {m n : Int} {key : V} {b : Bool} {Z : Addr → Prop} {Q : VK} {fs : List (Str × V)} (efs : fs = putF "_key" key (putF "_numbers" (.ref nu) (putF "_roster" (.ref ro) (putF "round" (.int 0) (seatG m)))))
    (c : Chg p H G) (kp : G p = some (.ins C dx fs)) (kr : G ro = some (.lst ((rangeI n).map V.int))) (kn : G nu = some (.lst ((zeros n).map V.int))) (fk : FreshKey G CK n key b Z) (nk : key ≠ .ref p)
    (hpl : upd G p (.ins C dx (putF "_begun" .non fs)) pl = none) (ro0 : H ro = none) (nu0 : H nu = none)
    (q : ∀ (pl : Addr) (key : V) H', Chg p H H' → H pl = none → CalAt H' C p dx m "out" 0 ro nu key .non pl (rangeI n) (zeros n) [] → FreshKey H' CK n key b Z → Q .non H') :
    Q .non (upd (upd (upd G p (.ins C dx (putF "_begun" .non fs))) pl (.dK [])) p (.ins C dx (putF "_pledges" (.ref pl) (putF "_begun" .non fs)))) := by
  have pp : pl ≠ p := fun z => by rw [z, upd_same] at hpl; cases hpl
  have hplG : G pl = none := by rw [upd_ne pp] at hpl; exact hpl
  have rp : ro ≠ p := ne_of kr kp (by intro z; cases z)
  have np : nu ≠ p := ne_of kn kp (by intro z; cases z)
  have rl : ro ≠ pl := ne_of_none kr hplG
  have nl : nu ≠ pl := ne_of_none kn hplG
  have cc : Chg p G (upd (upd (upd G p (.ins C dx (putF "_begun" .non fs))) pl (.dK [])) p (.ins C dx (putF "_pledges" (.ref pl) (putF "_begun" .non fs)))) := fun b o nb e => by
    rw [upd_ne nb, upd_ne (ne_of_none e hplG), upd_ne nb]; exact e
  refine q pl key _ (c.trans cc) (Chg.back c hplG pp) ⟨?_, cc _ _ rp kr, cc _ _ np kn, by rw [upd_ne pp, upd_same]⟩ ?_
  · rw [upd_same, efs, caF_end]
  · unfold FreshKey at fk ⊢
    cases b with
    | true =>
      rw [if_pos rfl] at fk ⊢
      obtain ⟨k, dk, d, l, e, A, z⟩ := fk
      exact ⟨k, dk, d, l, e, A.chg kp (fun z => nk (by rw [e, z])) cc, z⟩
    | false => exact fk
theorem ok_cinit {f cc cda D f2 fK : Addr} {fdK : FuncData} {dV kV doc pm ct oc cl : Value} {v : Option Value} {an od cld : Option Addr} {osl csl : Array (Option Value)} (T : BlC71 mg)
    (lk : K.lookup f = some ⟨oc, od, .func (PySem.W.ksFn "__init__" "Caller.__init__" (defArgs s_Caller__init) (defBody s_Caller__init) (defScope s_Caller__init) dV kV doc pm an (.ref cda) ct cc), osl⟩)
    (coded : PySem.W.codeIn K (.ref cda) "Caller.__init__" = true) (lc : K.lookup cc = some ⟨cl, cld, .cell v, csl⟩)
    (F : SupF P K ["self", "me", "seats", "first", "__class__", "seat"] f cc cda D (PySem.W.ksFn "__init__" "Caller.__init__" (defArgs s_Caller__init) (defBody s_Caller__init) (defScope s_Caller__init) dV kV doc pm an (.ref cda) ct cc) (defArgs s_Caller__init) (defScope s_Caller__init))
    (F2 : FnR P w K mg base CX0 1 f2 (spSeat0 C)) (S : CalT K C) (mro : PySem.W.mroIn K C (.ref D) = some true) (su : PySem.W.ks_superIn K C D "__init__" = some (some (.ref f2))) (ty : PySem.W.typeIn K (.ref f2) = some (.type "function")) (fi : PySem.W.fnIn K f2 = true)
    (KKm : Mk K CK fK) (GK : FnOk P w K mg base CX0 1 fK fdK ["self", "of_round", "served", "line"] (spKInit K CK)) (bK : Binds K fdK ["self", "of_round", "served", "line"] []) (gK : mg "Key" = some (.ref CK)) :
    FnOk P w K mg base CX0 3 f (PySem.W.ksFn "__init__" "Caller.__init__" (defArgs s_Caller__init) (defBody s_Caller__init) (defScope s_Caller__init) dV kV doc pm an (.ref cda) ct cc) ["self", "me", "seats", "first"] (spCInit K C CK) := by
  have NS : NScope ["self", "me", "seats", "first", "__class__", "seat"] ["self", "me", "seats", "first"] ["__class__"] (defScope s_Caller__init) := nscope_by (by decide +kernel)
  refine fnS_of lk coded lc NS ?_ fun A outer s H vs Q E hr h => ?_
  · rintro vs H Q E ⟨p, dx, m, n, a, rfl, _⟩
    rfl
  obtain ⟨p, dx, m, n, a, rfl, hp, n0, n1, q⟩ := h
  refine ⟨_, _, p1_supM F F2 (hr.mono (by decide)) (pa_cons (pv 1 (by rfl) (.inl (NS.par _ (by simp)))) pa_nil), (pss_cons (ps_fld (pv 0) pe_int rfl)
    (pss_cons (ps_fld (pv 0) (pe_listRg (by rfl) (by rfl) T.list (prg_1 (by rfl) T.range (pv 2))) rfl)
    (pss_cons (ps_fld (pv 0) (pe_op op_rep (pe_lst (pa_cons pe_int pa_nil)) (pv 2)) rfl)
    (pss_cons (ps_fld (pv 0) pe_non rfl)
    (pss_cons (ps_if (pt_cmpR op_eq (pv 1) (pv 3) (nomark _))
    (pss_one (ps_fld (pv 0) (pe_make KKm GK hr (by rfl) gK bK .nil pass0 (pa_cons pe_int (pa_cons (pe_lc (own := [("seat", 5)]) (g := gName 5) (tt := tYes) (by rfl) NS.nd (pi_range1 (by rfl) T.range (pa_cons (pv 2) pa_nil)) (blkOk_by (N := ["self", "me", "seats", "first", "__class__", "seat"]) (sc := defScope s_Caller__init) (by decide +kernel)) (fun _ _ _ _ _ => pg_name (i := 5) NS.nd rfl (Or.inl rfl)) (fun _ _ _ _ _ => pts_nil) (fun _ _ _ _ _ => (pe_tup (pa_cons (pv 5) (pa_cons pe_int pa_nil))))) (pa_cons (pe_lst pa_nil) pa_nil)))) rfl))
    pss_nil)
    (pss_cons (ps_fld (pv 0) pe_non rfl)
    (pss_one (ps_fld (pv 0) pe_dnewK rfl)))))))), ?_⟩
  have p0 : H p ≠ none := by rw [hp]; exact fun z => nomatch z
  refine ⟨p, C, dx, [], rfl, hp, mro, su, ty, fi, _, rfl, p, dx, m, rfl, hp, ?_⟩
  refine ⟨_, rfl, p, C, dx, _, rfl, upd_same, S.cl, S.round, (by show 3 < 1000; decide), ?_⟩
  rw [upd_upd]
  obtain ⟨H1, e1⟩ : ∃ H1, H1 = upd H p (.ins C dx (putF "round" (.int 0) (seatG m))) := ⟨_, rfl⟩
  have c1 : Chg p H H1 := by rw [e1]; exact Chg.self
  have k1 : H1 p = some (.ins C dx (putF "round" (.int 0) (seatG m))) := by rw [e1]; exact upd_same
  rw [← e1]
  clear e1
  refine ⟨_, rfl, n, rfl, RgOk.of_le (by decide) (by omega) (by decide) (by omega), fun ro hro => ?_⟩
  have rp : ro ≠ p := (ne_of_none k1 hro).symm
  have c2 : Chg p H (upd H1 ro (.lst (rgV 0 n))) := c1.trans (Chg.same (same_upd hro))
  refine ⟨_, rfl, p, C, dx, _, rfl, (upd_ne rp.symm).trans k1, S.cl, S.roster, (by show 4 < 1000; decide), ?_⟩
  obtain ⟨H2, e2⟩ : ∃ H2, H2 = upd (upd H1 ro (.lst (rgV 0 n))) p (.ins C dx (putF "_roster" (.ref ro) (putF "round" (.int 0) (seatG m)))) := ⟨_, rfl⟩
  have c3 : Chg p H H2 := by rw [e2]; exact c2.trans Chg.self
  have k2 : H2 p = some (.ins C dx (putF "_roster" (.ref ro) (putF "round" (.int 0) (seatG m)))) := by rw [e2]; exact upd_same
  have r2 : H2 ro = some (.lst ((rangeI n).map V.int)) := by rw [e2, upd_ne rp, upd_same, rgV_range]
  have ro0 : H ro = none := Chg.back c1 hro rp
  rw [← e2]
  clear e2 c2 c1 k1 hro
  refine ⟨by show 1 ≤ sizeLine; decide, fun z hz => ?_⟩
  refine ⟨_, rfl, z, n, _, rfl, rfl, upd_same, by omega, by omega, ?_, fun nu hnu => ?_⟩
  · rw [List.length_singleton, Nat.one_mul]
    exact Nat.le_trans (show n.toNat ≤ 60 by omega) (by decide)
  have sz := (same_upd (o := .lst [.int 0]) hz).trans (same_upd (o := .lst (List.replicate n.toNat [V.int 0]).flatten) hnu)
  have np : nu ≠ p := (ne_of_none (same_upd hz _ _ k2) hnu).symm
  have rn : ro ≠ nu := ne_of_none (same_upd hz _ _ r2) hnu
  have nu0 : H nu = none := Chg.back c3 ((same_upd hz).free hnu) np
  refine ⟨_, rfl, p, C, dx, _, rfl, sz _ _ k2, S.cl, S.numbers, (by show 5 < 1000; decide), ?_⟩
  obtain ⟨H3, e3⟩ : ∃ H3, H3 = upd (upd (upd H2 z (.lst [.int 0])) nu (.lst (List.replicate n.toNat [V.int 0]).flatten)) p (.ins C dx (putF "_numbers" (.ref nu) (putF "_roster" (.ref ro) (putF "round" (.int 0) (seatG m))))) := ⟨_, rfl⟩
  have c4 : Chg p H H3 := by rw [e3]; exact (c3.trans (Chg.same sz)).trans Chg.self
  have k3 : H3 p = some (.ins C dx (putF "_numbers" (.ref nu) (putF "_roster" (.ref ro) (putF "round" (.int 0) (seatG m))))) := by rw [e3]; exact upd_same
  have r3 : H3 ro = some (.lst ((rangeI n).map V.int)) := by rw [e3, upd_ne rp]; exact sz _ _ r2
  have n3 : H3 nu = some (.lst ((zeros n).map V.int)) := by rw [e3, upd_ne np, upd_same, flat_zero]; rfl
  rw [← e3]
  clear e3 c3 k2 r2 hnu hz sz
  refine ⟨_, rfl, p, C, dx, _, rfl, k3, S.cl, S.key, (by show 6 < 1000; decide), ?_⟩
  obtain ⟨H4, e4⟩ : ∃ H4, H4 = upd H3 p (.ins C dx (putF "_key" .non (putF "_numbers" (.ref nu) (putF "_roster" (.ref ro) (putF "round" (.int 0) (seatG m)))))) := ⟨_, rfl⟩
  have c5 : Chg p H H4 := by rw [e4]; exact c4.trans Chg.self
  have k4 : H4 p = some (.ins C dx (putF "_key" .non (putF "_numbers" (.ref nu) (putF "_roster" (.ref ro) (putF "round" (.int 0) (seatG m)))))) := by rw [e4]; exact upd_same
  have r4 : H4 ro = some (.lst ((rangeI n).map V.int)) := by rw [e4, upd_ne rp]; exact r3
  have n4 : H4 nu = some (.lst ((zeros n).map V.int)) := by rw [e4, upd_ne np]; exact n3
  rw [← e4]
  clear e4 c4 k3 r3 n3
  refine ⟨_, rfl, _, rfl, rfl, _, rfl, ?_⟩
  rw [dec_ii]
  refine ite2 (fun c => ?_) (fun c => ?_)
  · refine ⟨_, rfl, _, rfl, by omega, by omega, fun D hD => ?_⟩
    refine lc_range (lo := 0) (n := n.toNat) (fun i G => Same H4 G ∧ ∃ zs, zs.length = i ∧ G D = some (.lst zs) ∧ DpAll K G zs (((List.range i).map fun x : Nat => ((x : Int), (0 : Int))).map pairD)) ⟨same_upd hD, [], rfl, upd_same, .nil⟩ ?_ ?_
    · rintro i G hi ⟨sG, zs, lz, kD, dz⟩
      refine ⟨rfl, lc_yes ?_⟩
      refine ⟨_, rfl, by show 2 ≤ sizeLine; decide, fun u hu => ?_⟩
      have s3 := same_upd (o := .tup [.int (0 + (i : Int)), .int 0]) hu
      have kD3 := s3 _ _ kD
      refine ⟨_, kD3, Nat.lt_of_lt_of_le (show zs.length < 100 by omega) (by decide), fun c o e => ?_, zs ++ [.ref u], by rw [List.length_append, lz]; rfl, upd_same, ?_⟩
      · rw [upd_ne (ne_of_none e hD)]
        exact s3 _ _ (sG _ _ e)
      · refine dps_chg ⟨_, kD3⟩ Chg.self _ _ (noLs_pairs _) ?_
        rw [List.range_succ, List.map_append, List.map_append]
        exact dps_app (dps_same s3 _ _ dz) (.cons (.tup (SqT.of upd_same) (.cons (by rw [Int.zero_add]; exact .int _) (.cons (.int _) .nil))) .nil)
    rintro G ⟨sG, zs, lz, kD, dz⟩
    refine ⟨Nat.zero_le _, fun e he => ?_⟩
    have s5 := same_upd (o := .lst []) he
    refine fun x dx' hx hdx ne => ?_
    have kp5 := s5 _ _ (sG _ _ k4)
    obtain ⟨H6, e6⟩ : ∃ H6, H6 = upd (upd (upd G e (.lst [])) dx' (.own x)) x (.ins CK dx' []) := ⟨_, rfl⟩
    have s6 : Same H4 H6 := by
      rw [e6]
      exact (sG.trans s5).trans ((same_upd hdx).trans (same_upd (by rw [upd_ne ne.symm]; exact hx)))
    have s6' : Same (upd G e (.lst [])) H6 := by
      rw [e6]
      exact (same_upd hdx).trans (same_upd (by rw [upd_ne ne.symm]; exact hx))
    have kx6 : H6 x = some (.ins CK dx' []) := by rw [e6]; exact upd_same
    rw [← e6]
    clear e6
    have ds6 : DpAll K H6 zs ((freshS n).map pairD) := by
      have := dps_same s6' _ _ (dps_same s5 _ _ dz)
      unfold freshS rangeI
      rw [List.map_map (g := fun m : Int => (m, (0 : Int)))]
      exact this
    refine ⟨x, dx', D, e, 0, zs, freshS n, [], rfl, kx6, SqL.of (s6' _ _ (s5 _ _ kD)), ds6, SqL.of (s6' _ _ upd_same), ?_, ?_, by show 0 ≤ 1000; decide, fun d l H7 hd hl dne lne dl c7 KA => ⟨rfl, ?_⟩⟩
    · rw [freshS_fst]; exact rangeI_nd n
    · unfold freshS
      rw [List.length_map, rangeI_len]; omega
    have px : p ≠ x := ne_of_none kp5 hx
    have k7 := c7 _ _ px (s6 _ _ k4)
    refine ⟨_, rfl, p, C, dx, _, rfl, k7, S.cl, S.key, (by show 7 < 1000; decide), ?_⟩
    rw [putF_twice]
    refine ⟨_, rfl, p, C, dx, _, rfl, upd_same, S.cl, S.begun, (by show 7 < 1000; decide), ?_⟩
    have rx : ro ≠ p := rp
    have c9 : Chg p H7 (upd H7 p (.ins C dx (putF "_key" (.ref x) (putF "_numbers" (.ref nu) (putF "_roster" (.ref ro) (putF "round" (.int 0) (seatG m))))))) := Chg.self
    have rr : ro ≠ x := ne_of (s6 _ _ r4) kx6 (by intro z; cases z)
    have nr : nu ≠ x := ne_of (s6 _ _ n4) kx6 (by intro z; cases z)
    refine fun pl hpl => ?_
    have pp : pl ≠ p := fun z => by rw [z, upd_same] at hpl; cases hpl
    refine ⟨_, rfl, p, C, dx, _, rfl, (upd_ne pp.symm).trans upd_same, S.cl, S.pledges, (by show 8 < 1000; decide), ?_⟩
    have x4 : H4 x = none := (sG.trans s5).free hx
    have c7' : Chg p H H7 := fun b o nb e => c7 _ _ (ne_of_none (c5 _ _ nb e) x4) (s6 _ _ (c5 _ _ nb e))
    have ct : decide (m = a) = true := c
    refine cinit_end (b := decide (m = a)) (Z := fun l => H l = none) rfl (c7'.trans c9) upd_same ((upd_ne rp).trans (c7 _ _ rr (s6 _ _ r4))) ((upd_ne np).trans (c7 _ _ nr (s6 _ _ n4))) ?_ (fun z => px (V.ref.inj z).symm) hpl ro0 nu0 fun pl key H' a1 a2 a3 a4 => q ro nu pl key H' a1 ro0 nu0 a2 a3 a4
    · unfold FreshKey
      rw [ct, if_pos rfl]
      exact ⟨x, dx', d, l, rfl, KA.chg k7 px.symm c9, Chg.back c5 (s6.free hl) (ne_of_none (s6 _ _ k4) hl).symm⟩
  · refine ⟨_, rfl, p, C, dx, _, rfl, k4, S.cl, S.begun, (by show 7 < 1000; decide), ?_⟩
    refine fun pl hpl => ?_
    have pp : pl ≠ p := fun z => by rw [z, upd_same] at hpl; cases hpl
    refine ⟨_, rfl, p, C, dx, _, rfl, (upd_ne pp.symm).trans upd_same, S.cl, S.pledges, (by show 8 < 1000; decide), ?_⟩
    have cf : decide (m = a) = false := by simpa using c
    exact cinit_end (b := decide (m = a)) (Z := fun l => H l = none) rfl c5 k4 r4 n4 (by unfold FreshKey; rw [cf]; rfl) (fun z => nomatch z) hpl ro0 nu0 fun pl key H' a1 a2 a3 a4 => q ro nu pl key H' a1 ro0 nu0 a2 a3 a4
end

end G0
namespace G0
open PySem PySem.Spec PyProof.Rows L2 NdefX ClX
section
variable {P : Program} {w : World} {K : PySem.W.Frag} {mg : Str → Option Value} {base : Heap} {C CK f : Addr} {fd : FuncData}
/-! ### what a caller tells -/
def spBears (K : PySem.W.Frag) (C CK : Addr) : Sp := fun vs H Q _ => ∃ (q dx : Addr) (me : Int) (st : Str) (rnd : Int) (ro nu : Addr) (key bg : V) (pl : Addr) (rs ms : List Int) (ps : List (Key × V)), vs = [.ref q] ∧ CalAt H C q dx me st rnd ro nu key bg pl rs ms ps ∧
  ((key = .non ∧ Q .non H) ∨ ∃ k dk r d l S ns, key = .ref k ∧ KeyAt H CK k dk r d l S ns ∧ ∀ (t : Addr) (S' : List (Int × Int)) H', Same H H' → S'.Perm S → (S'.map (·.1)).Pairwise (· ≤ ·) → Dp K H' (.ref t) (toldD r S' ns) → Q (.ref t) H')
theorem sc_Caller_bears : FnScope ["self"] ["self"] (defScope s_Caller_bears) :=
  ⟨rfl, rfl, rfl, by decide +kernel, rfl, by decide +kernel, by decide +kernel⟩
theorem ok_bears (F : Fun K "bears" "Caller.bears" s_Caller_bears f fd) (S : CalT K C) (KT : KeyT K CK) (MT : Me P w K mg base CK "told" 1 ["self"] (spTold K CK)) : FnOk P w K mg base CX0 2 f fd ["self"] (spBears K C CK) := by
  obtain ⟨fT, fdT, GT, bT, mT⟩ := MT
  refine F.ok sc_Caller_bears (fun vs H Q E h => ?_) (fun cdv A outer s H vs Q E hr h => ?_)
  · obtain ⟨q, _, _, _, _, _, _, _, _, _, _, _, _, rfl, _⟩ := h
    rfl
  obtain ⟨q, dx, me, st, rnd, ro, nu, key, bg, pl, rs, ms, ps, rfl, A0, h⟩ := h
  refine ⟨_, (pss_cons (ps_if (pt_cmpR op_isN (pe_fld (pv 0) (by rfl)) pe_non (nomark _))
    (pss_one (ps_ret pe_non))
    pss_nil)
    (pss_one (ps_ret (pe_meth0 (pe_fld (pv 0) (by rfl)) KT.cl mT GT hr bT .nil pass0)))), ?_⟩
  refine ⟨_, rfl, q, C, dx, _, _, rfl, A0.hp, S.cl, S.key, caF_key _ _ _ _ _ _ _ _ _, rfl, _, rfl, ?_⟩
  rcases h with ⟨rfl, h⟩ | ⟨k, dk, r, d, l, SS, ns, rfl, KA, h⟩
  · exact iteT' rfl h
  · refine iteF' rfl ?_
    refine ⟨_, rfl, q, C, dx, _, _, rfl, A0.hp, S.cl, S.key, caF_key _ _ _ _ _ _ _ _ _, k, dk, _, rfl, KA.hp, keF_no _ _ _ (by decide +kernel) (by decide +kernel) (by decide +kernel), k, dk, r, d, l, SS, ns, rfl, KA, h⟩
def spRos (C : Addr) : Sp := fun vs H Q _ => ∃ (q dx : Addr) (me : Int) (st : Str) (rnd : Int) (ro nu : Addr) (key bg : V) (pl : Addr) (rs ms : List Int) (ps : List (Key × V)), vs = [.ref q] ∧ CalAt H C q dx me st rnd ro nu key bg pl rs ms ps ∧ ∀ l, H l = none → Q (.ref l) (upd H l (.lst (rs.map V.int)))
theorem sc_Caller_roster : FnScope ["self"] ["self"] (defScope s_Caller_roster) :=
  ⟨rfl, rfl, rfl, by decide +kernel, rfl, by decide +kernel, by decide +kernel⟩
theorem ok_roster (F : Fun K "roster" "Caller.roster" s_Caller_roster f fd) (T : BlC71 mg) (S : CalT K C) : FnOk P w K mg base CX0 1 f fd ["self"] (spRos C) := by
  refine F.ok sc_Caller_roster (fun vs H Q E h => ?_) (fun cdv A outer s H vs Q E hr h => ?_)
  · obtain ⟨q, _, _, _, _, _, _, _, _, _, _, _, _, rfl, _⟩ := h
    rfl
  obtain ⟨q, dx, me, st, rnd, ro, nu, key, bg, pl, rs, ms, ps, rfl, A0, h⟩ := h
  refine ⟨_, (pss_one (ps_ret (pe_callTy call_list_of (by rfl) T.list (by decide +kernel) (pa_cons (pe_fld (pv 0) (by rfl)) pa_nil)))), ?_⟩
  exact ⟨_, rfl, q, C, dx, _, _, rfl, A0.hp, S.cl, S.roster, caF_ros _ _ _ _ _ _ _ _ _, ro, _, rfl, .inl (SqL.of A0.hr), fun l hl => h l hl⟩
def spNum (C : Addr) : Sp := fun vs H Q _ => ∃ (q dx : Addr) (me : Int) (st : Str) (rnd : Int) (ro nu : Addr) (key bg : V) (pl : Addr) (rs ms : List Int) (ps : List (Key × V)), vs = [.ref q] ∧ CalAt H C q dx me st rnd ro nu key bg pl rs ms ps ∧ ∀ l, H l = none → Q (.ref l) (upd H l (.lst (ms.map V.int)))
theorem sc_Caller_numbers : FnScope ["self"] ["self"] (defScope s_Caller_numbers) :=
  ⟨rfl, rfl, rfl, by decide +kernel, rfl, by decide +kernel, by decide +kernel⟩
theorem ok_numbers (F : Fun K "numbers" "Caller.numbers" s_Caller_numbers f fd) (T : BlC71 mg) (S : CalT K C) : FnOk P w K mg base CX0 1 f fd ["self"] (spNum C) := by
  refine F.ok sc_Caller_numbers (fun vs H Q E h => ?_) (fun cdv A outer s H vs Q E hr h => ?_)
  · obtain ⟨q, _, _, _, _, _, _, _, _, _, _, _, _, rfl, _⟩ := h
    rfl
  obtain ⟨q, dx, me, st, rnd, ro, nu, key, bg, pl, rs, ms, ps, rfl, A0, h⟩ := h
  refine ⟨_, (pss_one (ps_ret (pe_callTy call_list_of (by rfl) T.list (by decide +kernel) (pa_cons (pe_fld (pv 0) (by rfl)) pa_nil)))), ?_⟩
  exact ⟨_, rfl, q, C, dx, _, _, rfl, A0.hp, S.cl, S.numbers, caF_nms _ _ _ _ _ _ _ _ _, nu, _, rfl, .inl (SqL.of A0.hn), fun l hl => h l hl⟩
end

end G0
namespace G0
open PySem PySem.Spec PyProof.Rows L2
/-! ### data that is the same -/
mutual
theorem eqv_self : ∀ d : PyData, PyData.canLay0 d = true → PyData.eqv d d = true
  | .none, _ => by simp [PyData.eqv]
  | .bool b, _ => by simp [PyData.eqv]
  | .int i, _ => by simp [PyData.eqv]
  | .str z, _ => by simp [PyData.eqv]
  | .dict _, h => by simp [PyData.canLay0] at h
  | .list ds, h => by
    simp only [PyData.eqv]
    exact eqvs_self ds (by simpa [PyData.canLay0] using h)
  | .tuple ds, h => by
    simp only [PyData.eqv]
    exact eqvs_self ds (by simpa [PyData.canLay0] using h)
theorem eqvs_self : ∀ ds : List PyData, PyData.canLayAll0 ds = true → PyData.eqvAll ds ds = true
  | [], _ => by simp [PyData.eqvAll]
  | d :: ds, h => by
    simp only [PyData.canLayAll0, Bool.and_eq_true] at h
    simp only [PyData.eqvAll, eqv_self d h.1, eqvs_self ds h.2, Bool.and_true]
end
theorem eqv_shaped {d : PyData} (h : SeqAt.shaped d = true) : PyData.eqv d d = true := eqv_self d (Bool.and_eq_true_iff.mp h).1
theorem shaped_pair {z : Str} (h : PyData.strOk z = true) (i : Int) : SeqAt.shaped (.tuple [.str z, .int i]) = true := by
  show ((PyData.tuple [.str z, .int i]).canLay0 && decide ((PyData.tuple [.str z, .int i]).depth ≤ 64)) = true
  simp [PyData.canLay0, PyData.canLayAll0, PyData.depth, PyData.depthAll, h]
end G0
namespace G0
open PySem PySem.Spec PyProof.Rows L2 NdefX ClX
section
variable {P : Program} {w : World} {K : PySem.W.Frag} {mg : Str → Option Value} {base : Heap} {C CK f : Addr} {fd : FuncData}
/-! ### Key: serve, take_first, line_up -/
theorem ent_val {S : List (Int × Int)} {m v : Int} (h : valV (S.map entI) (Sum.inl m) = some (.int v)) : (m, v) ∈ S := by
  induction S with
  | nil => cases h
  | cons q S ih =>
    rw [List.map_cons] at h
    by_cases c : q.1 = m
    · rw [show entI q = (Sum.inl m, V.int q.2) by unfold entI; rw [c], valV_pos rfl] at h
      have : q.2 = v := by cases h; rfl
      rw [← c, ← this]
      exact List.mem_cons_self ..
    · rw [show entI q = (Sum.inl q.1, V.int q.2) from rfl, valV_neg (fun e => c (Sum.inl.inj e))] at h
      exact List.mem_cons_of_mem _ (ih h)
theorem ent_is {S : List (Int × Int)} (m : Int) : valV (S.map entI) (Sum.inl m) = none ∨ ∃ v, valV (S.map entI) (Sum.inl m) = some (.int v) ∧ (m, v) ∈ S := by
  cases h : valV (S.map entI) (Sum.inl m) with
  | none => exact .inl rfl
  | some u =>
    refine .inr ?_
    have : ∃ v, u = V.int v := by
      induction S with
      | nil => cases h
      | cons q S ih =>
        rw [List.map_cons] at h
        by_cases c : q.1 = m
        · rw [show entI q = (Sum.inl m, V.int q.2) by unfold entI; rw [c], valV_pos rfl] at h
          cases h
          exact ⟨_, rfl⟩
        · rw [show entI q = (Sum.inl q.1, V.int q.2) from rfl, valV_neg (fun e => c (Sum.inl.inj e))] at h
          exact ih h
    obtain ⟨v, rfl⟩ := this
    exact ⟨v, rfl, ent_val h⟩
/-- the number of a member that is served, changed -/
def srvS (S : List (Int × Int)) (m v : Int) : List (Int × Int) := S.map fun p => if p.1 = m then (m, v) else p
theorem srvS_fst (S : List (Int × Int)) (m v : Int) : (srvS S m v).map (·.1) = S.map (·.1) := by
  unfold srvS
  rw [List.map_map]
  refine List.map_congr_left fun p _ => ?_
  show (if p.1 = m then (m, v) else p).1 = p.1
  split
  · next h => exact h.symm
  · rfl
theorem put_ent {S : List (Int × Int)} {m v : Int} (h : m ∈ S.map (·.1)) : putK (S.map entI) (Sum.inl m) (.int v) = (srvS S m v).map entI := by
  have any : (valV (S.map entI) (Sum.inl m)).isSome = true := by
    rcases ent_is (S := S) m with z | ⟨u, z, _⟩
    · exfalso
      clear v
      induction S with
      | nil => exact absurd h List.not_mem_nil
      | cons q S ih =>
        rw [List.map_cons] at z h
        by_cases c : q.1 = m
        · rw [show entI q = (Sum.inl m, V.int q.2) by unfold entI; rw [c], valV_pos rfl] at z
          cases z
        · rw [show entI q = (Sum.inl q.1, V.int q.2) from rfl, valV_neg (fun e => c (Sum.inl.inj e))] at z
          rcases List.mem_cons.mp h with e | h
          · exact c e.symm
          · exact ih h z
    · rw [z]; rfl
  unfold putK
  rw [valV_any, if_pos any]
  unfold srvS
  rw [List.map_map, List.map_map]
  refine List.map_congr_left fun p _ => ?_
  show (if (entI p).1 = Sum.inl m then ((entI p).1, V.int v) else entI p) = entI (if p.1 = m then (m, v) else p)
  by_cases c : p.1 = m
  · rw [if_pos c, if_pos (show (entI p).1 = Sum.inl m by unfold entI; rw [c])]
    unfold entI
    rw [c]
  · rw [if_neg c, if_neg (show ¬ (entI p).1 = Sum.inl m from fun e => c (Sum.inl.inj e))]
def spServe (CK : Addr) : Sp := fun vs H Q _ => ∃ (k dk : Addr) (r m v : Int) (d l : Addr) (S : List (Int × Int)) (ns : List Int), vs = [.ref k, .int m, .int v] ∧ KeyAt H CK k dk r d l S ns ∧ m ∈ S.map (·.1) ∧ Q .non (upd H d (.dK ((srvS S m v).map entI)))
def spTake (CK : Addr) : Sp := fun vs H Q _ => ∃ (k dk : Addr) (r : Int) (d l : Addr) (S : List (Int × Int)) (ns : List Int), vs = [.ref k] ∧ KeyAt H CK k dk r d l S ns ∧
  ((ns = [] ∧ Q .non H) ∨ ∃ t rest, ns = t :: rest ∧ Q (.int t) (upd H l (.lst (rest.map V.int))))
structure BlL72 (mg : Str → Option Value) : Prop where
  len : mg "len" = none
theorem sc_Key_take_first : FnScope ["self"] ["self"] (defScope s_Key_take_first) :=
  ⟨rfl, rfl, rfl, by decide +kernel, rfl, by decide +kernel, by decide +kernel⟩
theorem ok_take (F : Fun K "take_first" "Key.take_first" s_Key_take_first f fd) (T : BlL72 mg) (KT : KeyT K CK) : FnOk P w K mg base CX0 1 f fd ["self"] (spTake CK) := by
  refine F.ok sc_Key_take_first (fun vs H Q E h => ?_) (fun cdv A outer s H vs Q E hr h => ?_)
  · obtain ⟨k, dk, r, d, l, S, ns, rfl, _⟩ := h
    rfl
  obtain ⟨k, dk, r, d, l, S, ns, rfl, A0, two⟩ := h
  refine ⟨_, (pss_cons (ps_if (pt_cmpR op_eq (pe_callB call_len_seq (by rfl) T.len (by decide +kernel) (pa_cons (pe_fld (pv 0) (by rfl)) pa_nil)) pe_int (nomark _))
    (pss_one (ps_ret pe_non))
    pss_nil)
    (pss_one (ps_ret (pe_bm PySem.F.plainAttrs_list PySem.F.slot_list_pop PySem.F.type_list_pop mt_popAt (pe_fld (pv 0) (by rfl)) (pa_cons pe_int pa_nil))))), ?_⟩
  refine ⟨_, rfl, k, CK, dk, _, _, rfl, A0.hp, KT.cl, KT.line, keF_lin _ _ _, l, _, rfl, .inl (SqL.of A0.hl), rfl, _, rfl, ?_⟩
  rcases two with ⟨rfl, q⟩ | ⟨t, rest, rfl, q⟩
  · refine iteT' (by simp) ?_
    exact q
  · refine iteF' (by simp; omega) ?_
    refine ⟨_, rfl, k, CK, dk, _, _, rfl, A0.hp, KT.cl, KT.line, keF_lin _ _ _, .inl ⟨rfl, _, SqL.of A0.hl⟩, l, _, 0, 0, _, rfl, rfl, A0.hl, by decide, by decide, ?_, rfl, ?_⟩
    · simp [seqIndex?]
    · exact q
/-- is a member due -/
def dueS (S : List (Int × Int)) (m v : Int) : Bool := match valV (S.map entI) (Sum.inl m) with | some (.int u) => decide (u < v) | _ => false
def spDue (CK : Addr) : Sp := fun vs H Q _ => ∃ (k dk : Addr) (r m v : Int) (d l : Addr) (S : List (Int × Int)) (ns : List Int), vs = [.ref k, .int m, .int v] ∧ KeyAt H CK k dk r d l S ns ∧ Q (.bl (dueS S m v)) H
theorem sc_Key_is_due : FnScope ["self", "member", "number"] ["self", "member", "number"] (defScope s_Key_is_due) :=
  ⟨rfl, rfl, rfl, by decide +kernel, rfl, by decide +kernel, by decide +kernel⟩
theorem ok_due (F : Fun K "_is_due" "Key._is_due" s_Key_is_due f fd) (KT : KeyT K CK) : FnOk P w K mg base CX0 1 f fd ["self", "member", "number"] (spDue CK) := by
  refine F.ok sc_Key_is_due (fun vs H Q E h => ?_) (fun cdv A outer s H vs Q E hr h => ?_)
  · obtain ⟨k, dk, r, m, v, d, l, S, ns, rfl, _⟩ := h
    rfl
  obtain ⟨k, dk, r, m, v, d, l, S, ns, rfl, A0, q⟩ := h
  refine ⟨_, (pss_one (ps_ret (pe_and (pe_cmp (pc_din (hu_of hr) (pv 1) (pe_fld (pv 0) (by rfl)))) (pe_one (pe_cmpR op_gt (pv 2) (pe_dget (hu_of hr) (pe_fld (pv 0) (by rfl)) (pv 1) (fun _ _ => rfl)) (nomark _)))))), ?_⟩
  refine ⟨_, rfl, _, rfl, k, CK, dk, _, _, rfl, A0.hp, KT.cl, KT.served, keF_srv _ _ _, d, _, rfl, .inl ⟨_, Sum.inl m, .inl A0.hd, rfl, rfl⟩, ?_⟩
  unfold dueS at q
  rcases ent_is (S := S) m with z | ⟨u, z, _⟩
  · rw [z] at q ⊢
    exact ⟨_, rfl, iteF q⟩
  · rw [z] at q ⊢
    refine ⟨_, rfl, iteT ?_⟩
    exact ⟨_, rfl, _, rfl, k, CK, dk, _, _, rfl, A0.hp, KT.cl, KT.served, keF_srv _ _ _, _, rfl, d, _, rfl, .inl ⟨_, Sum.inl m, .inl A0.hd, rfl, z.symm⟩, _, _, rfl, rfl, q⟩
end

end G0
namespace G0
open PySem PySem.Spec PyProof.Rows L2 NdefX ClX
section
variable {P : Program} {w : World} {K : PySem.W.Frag} {mg : Str → Option Value} {base : Heap} {C CK f : Addr} {fd : FuncData}
/-! ### Key.line_up -/
def ordR (rs : List Int) (b : Int) : List Int := (rs.filter fun m => decide (b < m)) ++ rs.filter fun m => decide (m ≤ b)
def keepL (ns rs : List Int) : List Int := ns.filter fun m => decide (m ∈ rs)
def lineUp (b : Int) (rs ms : List Int) (S : List (Int × Int)) (ns : List Int) : List Int := keepL ns rs ++ (ordR rs b).filter fun m => !decide (m ∈ keepL ns rs) && dueS S m (ms.getD m.toNat 0)
theorem ordR_nd {rs : List Int} {b : Int} (h : rs.Nodup) : (ordR rs b).Nodup := by
  unfold ordR
  rw [List.nodup_append]
  refine ⟨h.filter _, h.filter _, fun x hx y hy e => ?_⟩
  have h1 := (List.mem_filter.mp hx).2
  have h2 := (List.mem_filter.mp hy).2
  rw [e] at h1
  have := of_decide_eq_true h1
  have := of_decide_eq_true h2
  omega
theorem ordR_mem {rs : List Int} {b m : Int} : m ∈ ordR rs b ↔ m ∈ rs := by
  unfold ordR
  rw [List.mem_append, List.mem_filter, List.mem_filter]
  constructor
  · rintro (h | h) <;> exact h.1
  · intro h
    rcases Int.lt_or_le b m with c | c
    · exact .inl ⟨h, decide_eq_true c⟩
    · exact .inr ⟨h, decide_eq_true c⟩
theorem ordR_len {rs : List Int} {b : Int} : (ordR rs b).length ≤ 2 * rs.length := by
  unfold ordR
  rw [List.length_append]
  have h1 := List.length_filter_le (fun m => decide (b < m)) rs
  have h2 := List.length_filter_le (fun m => decide (m ≤ b)) rs
  omega
def spLineUp (CK : Addr) : Sp := fun vs H Q _ => ∃ (k dk ro nu : Addr) (r b : Int) (d l : Addr) (S : List (Int × Int)) (ns rs ms : List Int), vs = [.ref k, .int b, .ref ro, .ref nu] ∧ KeyAt H CK k dk r d l S ns ∧ H ro = some (.lst (rs.map V.int)) ∧ H nu = some (.lst (ms.map V.int)) ∧
  rs.Nodup ∧ (∀ m ∈ rs, 0 ≤ m ∧ m < ms.length) ∧ rs.length ≤ 60 ∧ ns.length ≤ 500 ∧ ∀ l' H', H l' = none → Chg k H H' → KeyAt H' CK k dk r d l' S (lineUp b rs ms S ns) → Q .non H'
theorem sc_Key_line_up : FnScope ["self", "behind", "roster", "numbers", "line", "member", "later", "sooner"] ["self", "behind", "roster", "numbers"] (defScope s_Key_line_up) :=
  ⟨rfl, rfl, rfl, by decide +kernel, rfl, by decide +kernel, by decide +kernel⟩
theorem ok_lineup (F : Fun K "line_up" "Key.line_up" s_Key_line_up f fd) (KT : KeyT K CK) (MD : Me P w K mg base CK "_is_due" 1 ["self", "member", "number"] (spDue CK)) : FnOk P w K mg base CX0 2 f fd ["self", "behind", "roster", "numbers"] (spLineUp CK) := by
  obtain ⟨fD, fdD, GD, bD, mD⟩ := MD
  refine F.ok sc_Key_line_up (fun vs H Q E h => ?_) (fun cdv A outer s H vs Q E hr h => ?_)
  · obtain ⟨k, dk, ro, nu, r, b, d, l, S, ns, rs, ms, rfl, _⟩ := h
    rfl
  obtain ⟨k, dk, ro, nu, r, b, d, l, S, ns, rs, ms, rfl, A0, hro, hnu, nd, bnd, l60, l500, q⟩ := h
  refine ⟨_, (pss_cons (ps_setLc (i := 4) (own := [("member", 5)]) (g := gName 5)  (by rfl) sc_Key_line_up.nd rfl rfl (sw_true rfl rfl rfl (by decide +kernel)) (pi_list (pe_fld (pv 0) (by rfl))) (blkOk_by (N := ["self", "behind", "roster", "numbers", "line", "member", "later", "sooner"]) (sc := defScope s_Key_line_up) (by decide +kernel)) (fun _ _ _ _ _ => pg_name (i := 5) sc_Key_line_up.nd rfl (Or.inl rfl)) (fun _ _ _ _ _ => pts_one (pt_cmpR (u_inK K) (pv 5) (pv 2) (by rfl))) (fun _ _ _ _ _ => (pv 5)))
    (pss_cons (ps_setLc (i := 6) (own := [("member", 5)]) (g := gName 5)  (by rfl) sc_Key_line_up.nd rfl rfl (sw_true rfl rfl rfl (by decide +kernel)) (pi_list (pv 2)) (blkOk_by (N := ["self", "behind", "roster", "numbers", "line", "member", "later", "sooner"]) (sc := defScope s_Key_line_up) (by decide +kernel)) (fun _ _ _ _ _ => pg_name (i := 5) sc_Key_line_up.nd rfl (Or.inl rfl)) (fun _ _ _ _ _ => pts_one (pt_cmpR op_gt (pv 5) (pv 1) (nomark _))) (fun _ _ _ _ _ => (pv 5)))
    (pss_cons (ps_setLc (i := 7) (own := [("member", 5)]) (g := gName 5)  (by rfl) sc_Key_line_up.nd rfl rfl (sw_true rfl rfl rfl (by decide +kernel)) (pi_list (pv 2)) (blkOk_by (N := ["self", "behind", "roster", "numbers", "line", "member", "later", "sooner"]) (sc := defScope s_Key_line_up) (by decide +kernel)) (fun _ _ _ _ _ => pg_name (i := 5) sc_Key_line_up.nd rfl (Or.inl rfl)) (fun _ _ _ _ _ => pts_one (pt_cmpR op_le (pv 5) (pv 1) (nomark _))) (fun _ _ _ _ _ => (pv 5)))
    (pss_cons (ps_for PassesOwn.never rfl (pi_list (pe_op op_cat (pv 6) (pv 7))) (pg_name (i := 5) sc_Key_line_up.nd rfl (Or.inl rfl))
    (pss_one (ps_if (PW.pt (pw_and (pt_cmpR u_notin (pv 5) (pv 4) (by rfl)) (pw_and1 (pt_val (pe_meth (pv 0) KT.cl mD GD hr bD .nil pass0 (pa_cons (pv 5) (pa_cons (pe_ix ix_list (pv 3) (pv 5) (fun _ _ => rfl)) pa_nil)))))))
    (pss_one (ps_expr (pe_bm PySem.F.plainAttrs_list PySem.F.slot_list_append PySem.F.type_list_append mt_append (pv 4) (pa_cons (pv 5) pa_nil))))
    pss_nil)))
    (pss_one (ps_fld (pv 0) (pv 4) rfl)))))), ?_⟩
  refine ⟨_, rfl, k, CK, dk, _, _, rfl, A0.hp, KT.cl, KT.line, keF_lin _ _ _, l, rfl, ⟨_, SqL.of A0.hl⟩, fun D hD => ?_⟩
  refine lc_filtI (K := K) (a := l) (ns := ns) (fun m => decide (m ∈ rs)) (by omega) hD (SqL.of A0.hl) (fun i x G Y B hx sG h => ?_) (fun G1 s1 kD => ?_)
  · refine ⟨rfl, _, rfl, _, rfl, .inl ⟨ro, _, rfl, .inl (SqL.of (sG _ _ hro)), rfl, flat_ints _, _, rfl, ?_⟩⟩
    exact tst (by rw [inV_ints]; rfl) (fun y => ⟨_, rfl, y⟩) h
  have kD : G1 D = some (.lst ((keepL ns rs).map V.int)) := kD
  have hro1 := s1 _ _ hro
  refine ⟨_, rfl, ro, rfl, ⟨_, SqL.of hro1⟩, fun D2 hD2 => ?_⟩
  refine lc_filtI (K := K) (a := ro) (ns := rs) (fun m => decide (b < m)) (by omega) hD2 (SqL.of hro1) (fun i x G Y B hx sG h => ?_) (fun G2 sG2 kD2 => ?_)
  · refine ⟨rfl, _, rfl, _, rfl, _, _, rfl, rfl, _, rfl, ?_⟩
    exact tst rfl (fun y => ⟨_, rfl, y⟩) h
  have s12 := s1.trans sG2
  have hro2 := s12 _ _ hro
  refine ⟨_, rfl, ro, rfl, ⟨_, SqL.of hro2⟩, fun D3 hD3 => ?_⟩
  refine lc_filtI (K := K) (a := ro) (ns := rs) (fun m => decide (m ≤ b)) (by omega) hD3 (SqL.of hro2) (fun i x G Y B hx sG h => ?_) (fun G3 sG3 kD3 => ?_)
  · refine ⟨rfl, _, rfl, _, rfl, _, _, rfl, rfl, _, rfl, ?_⟩
    exact tst rfl (fun y => ⟨_, rfl, y⟩) h
  have s13 := s12.trans sG3
  have kD2' := sG3 _ _ kD2
  have l1 := ordR_len (rs := rs) (b := b)
  have lkeep : (keepL ns rs).length ≤ ns.length := List.length_filter_le _ _
  refine ⟨_, rfl, _, rfl, D2, D3, _, _, rfl, rfl, kD2', kD3, ?_, fun E1 hE1 => ?_⟩
  · rw [List.length_map, List.length_map]
    have h1 := List.length_filter_le (fun m => decide (b < m)) rs
    have h2 := List.length_filter_le (fun m => decide (m ≤ b)) rs
    exact Nat.le_trans (show _ ≤ 1000 by omega) (by decide)
  have eO : (rs.filter fun m => decide (b < m)).map V.int ++ (rs.filter fun m => decide (m ≤ b)).map V.int = (ordR rs b).map V.int := by unfold ordR; rw [List.map_append]
  rw [eO]
  have sE := same_upd (o := .lst ((ordR rs b).map V.int)) hE1
  have s14 := s13.trans sE
  have kD4 := sE _ _ (sG3 _ _ (sG2 _ _ kD))
  obtain ⟨G4, e4⟩ : ∃ G4, G4 = upd G3 E1 (.lst ((ordR rs b).map V.int)) := ⟨_, rfl⟩
  have kE4 : G4 E1 = some (.lst ((ordR rs b).map V.int)) := by rw [e4]; exact upd_same
  rw [← e4] at s14 kD4
  rw [← e4]
  have D0 : H D = none := hD
  have DE : E1 ≠ D := by
    have := sG3 _ _ (sG2 _ _ kD)
    exact (ne_of_none this hE1).symm
  refine ⟨E1, rfl, ⟨_, SqL.of kE4⟩, ?_⟩
  obtain ⟨qf, eqf⟩ : ∃ qf : Int → Bool, qf = fun m => !decide (m ∈ keepL ns rs) && dueS S m (ms.getD m.toNat 0) := ⟨_, rfl⟩
  refine for_list (K := K) (a := E1) (xs := (ordR rs b).map V.int) (fun i σ G => (∃ z5 : Option V, σ = [some (V.ref k), some (V.int b), some (V.ref ro), some (V.ref nu), some (V.ref D), z5, some (V.ref D2), some (V.ref D3)]) ∧ Same H G ∧ G E1 = some (.lst ((ordR rs b).map V.int)) ∧ G D = some (.lst ((keepL ns rs ++ ((ordR rs b).take i).filter qf).map V.int))) ⟨⟨_, rfl⟩, s14, kE4, by simpa using kD4⟩ (fun i σ G _ h => SqL.of h.2.2.1) ?_ ?_
  · rintro i x σ G hx ⟨⟨z5, rfl⟩, sG, kE, kD⟩
    obtain ⟨m, hm, rfl⟩ := ints_at' hx
    have mO := List.mem_of_getElem? hm
    obtain ⟨m0, m1⟩ := bnd m (ordR_mem.mp mO)
    have li := (List.getElem?_eq_some_iff.mp hm).1
    have nin : m ∉ (ordR rs b).take i := fun z => by
      obtain ⟨j, lj, ej⟩ := List.mem_take_iff_getElem.mp z
      have h1 : (ordR rs b)[j]? = some m := by rw [List.getElem?_eq_getElem (by omega), ej]
      have := (List.getElem?_inj (by omega) (ordR_nd (b := b) nd)).mp (h1.trans hm.symm)
      omega
    have eM : decide (m ∈ keepL ns rs ++ ((ordR rs b).take i).filter qf) = decide (m ∈ keepL ns rs) := decide_eq_decide.mpr ⟨fun h => by
      rcases List.mem_append.mp h with z | z
      · exact z
      · exact absurd (List.mem_filter.mp z).1 nin, fun h => List.mem_append.mpr (.inl h)⟩
    have A1 := A0.same sG
    have hnuG := sG _ _ hnu
    have ln := (keepL ns rs ++ ((ordR rs b).take i).filter qf).length
    have llen : (keepL ns rs ++ ((ordR rs b).take i).filter qf).length < 1000 := by
      rw [List.length_append]
      have := Nat.le_trans (List.length_filter_le qf ((ordR rs b).take i)) (by rw [List.length_take]; exact Nat.min_le_right _ _)
      omega
    rw [filt_next qf hm]
    refine ⟨_, rfl, _, rfl, .inl ⟨D, _, rfl, .inl (SqL.of kD), rfl, flat_ints _, _, rfl, ?_⟩⟩
    rw [inV_ints, eM]
    by_cases cK : m ∈ keepL ns rs
    · have q0 : qf m = false := by rw [eqf]; simp [cK]
      refine iteF' (by simp [cK]) ?_
      rw [q0, if_neg (by decide), List.append_nil]
      exact ⟨⟨_, rfl⟩, sG, kE, kD⟩
    · refine iteT' (by simp [cK]) ?_
      obtain ⟨j, ej⟩ : ∃ j : Nat, m = (j : Int) := ⟨m.toNat, by omega⟩
      have jl : j < ms.length := by omega
      have atm : atI (ms.map V.int) m = some (.int (ms.getD m.toNat 0)) := by
        rw [ej]
        refine atI_nat ?_
        rw [List.getElem?_map, List.getElem?_eq_getElem jl, show ((j : Int)).toNat = j from rfl, List.getD_eq_getElem?_getD, List.getElem?_eq_getElem jl]
        rfl
      have q1 : qf m = dueS S m (ms.getD m.toNat 0) := by rw [eqf]; simp [cK]
      refine ⟨_, rfl, k, dk, _, rfl, A1.hp, keF_no _ _ _ (by decide +kernel) (by decide +kernel) (by decide +kernel), _, rfl, _, rfl, _, rfl, nu, _, _, _, rfl, rfl, SqL.of hnuG, atm, k, dk, r, m, _, d, l, S, ns, rfl, A1, _, rfl, ?_⟩
      rw [← q1]
      cases hq : qf m with
      | true =>
        refine iteT ?_
        rw [if_pos rfl]
        refine ⟨_, rfl, .inl ⟨rfl, _, SqL.of kD⟩, _, rfl, D, _, _, rfl, rfl, kD, by rw [List.length_map]; exact Nat.lt_of_lt_of_le llen (by decide), ?_⟩
        refine ⟨⟨_, rfl⟩, fun c o e => ?_, (upd_ne DE).trans kE, ?_⟩
        · rw [upd_ne (ne_of_none e D0)]
          exact sG _ _ e
        · rw [upd_same, ← List.append_assoc, List.map_append (l₂ := [m])]
          rfl
      | false =>
        refine iteF ?_
        rw [if_neg (by decide), List.append_nil]
        exact ⟨⟨_, rfl⟩, sG, kE, kD⟩
  · rintro σ G ⟨⟨z5, rfl⟩, sG, kE, kD⟩
    rw [List.length_map, List.take_length] at kD
    have A1 := A0.same sG
    have Dk : D ≠ k := (ne_of_none A0.hp D0).symm
    refine ⟨_, rfl, _, rfl, k, CK, dk, _, rfl, A1.hp, KT.cl, KT.line, (by show 3 < 1000; decide), ?_⟩
    rw [keF_put_lin]
    have eL : lineUp b rs ms S ns = keepL ns rs ++ (ordR rs b).filter qf := by rw [eqf]; rfl
    have cI : Chg k H (upd G k (.ins CK dk (keF r d D))) := (Chg.same sG).trans Chg.self
    refine q D _ D0 cI ⟨upd_same, cI _ _ (ne_of A0.hd A0.hp (by intro z; cases z)) A0.hd, by rw [upd_ne Dk, eL]; exact kD, A0.nd, A0.few, ?_⟩
    rw [eL, List.length_append]
    have := List.length_filter_le qf (ordR rs b)
    omega
end

end G0
namespace G0
open PySem PySem.Spec PyProof.Rows L2 NdefX ClX
section
variable {P : Program} {w : World} {K : PySem.W.Frag} {mg : Str → Option Value} {base : Heap} {C CK f : Addr} {fd : FuncData}
/-! ### a caller's letters to all others; what it learns -/
theorem cat_anyk {H : Hp} {a b : Addr} {xs ys : List V} {Q : VK} (h1 : SqT K H a xs) (h2 : SqT K H b ys) (l : xs.length + ys.length ≤ 10000)
    (q : ∀ r H', Same H H' → SqT K H' r (xs ++ ys) → Q (.ref r) H') : rCatA K (.ref a) (.ref b) H Q := by
  refine ⟨a, b, xs, ys, rfl, rfl, h1, h2, Nat.le_trans l (by decide), fun e => ?_, fun _ e => ?_, fun _ _ r hr => q r _ (same_upd hr) (SqT.of upd_same)⟩
  · subst e
    exact q b H (Same.refl H) h2
  · subst e
    exact q a H (Same.refl H) (by rw [List.append_nil]; exact h1)
def toD (d : PyData) (s : Int) : PyData := .tuple [.int s, d]
theorem noL_to {d : PyData} (h : noL d = true) (s : Int) : noL (toD d s) = true := by simp [toD, noL, noLs, h]
def othR (rs : List Int) (me : Int) : List Int := rs.filter fun s => !decide (s = me)
structure BlM72 (mg : Str → Option Value) : Prop where
  len : mg "len" = none
  max : mg "max" = none
theorem CalAt.no {H : Hp} {q dx : Addr} {me : Int} {st : Str} {rnd : Int} {ro nu : Addr} {key bg : V} {pl : Addr} {rs ms : List Int} {ps : List (Key × V)} (A : CalAt H C q dx me st rnd ro nu key bg pl rs ms ps) (x : Str)
    (h1 : x ≠ "me" := by decide +kernel) (h2 : x ≠ "state" := by decide +kernel) (h3 : x ≠ "sits" := by decide +kernel) (h4 : x ≠ "round" := by decide +kernel) (h5 : x ≠ "_roster" := by decide +kernel) (h6 : x ≠ "_numbers" := by decide +kernel) (h7 : x ≠ "_key" := by decide +kernel) (h8 : x ≠ "_begun" := by decide +kernel) (h9 : x ≠ "_pledges" := by decide +kernel) :
    H q = some (.ins C dx (caF me st false rnd ro nu key bg pl)) ∧ (caF me st false rnd ro nu key bg pl).lookup x = none := ⟨A.hp, caF_no _ _ _ _ _ _ _ _ _ h1 h2 h3 h4 h5 h6 h7 h8 h9⟩
def spToO (K : PySem.W.Frag) (C : Addr) : Sp := fun vs H Q _ => ∃ (q dx lt ro nu pl : Addr) (me rnd : Int) (st : Str) (key bg : V) (rs ms : List Int) (ps : List (Key × V)) (dl : PyData), vs = [.ref q, .ref lt] ∧ CalAt H C q dx me st rnd ro nu key bg pl rs ms ps ∧ Dp K H (.ref lt) dl ∧ noL dl = true ∧ rs.length ≤ 60 ∧
  ∀ l zs H', Same H H' → H' l = some (.lst zs) → DpAll K H' zs ((othR rs me).map (toD dl)) → Q (.ref l) H'
theorem sc_Caller_to_others : FnScope ["self", "letter", "seat"] ["self", "letter"] (defScope s_Caller_to_others) :=
  ⟨rfl, rfl, rfl, by decide +kernel, rfl, by decide +kernel, by decide +kernel⟩
theorem ok_tooth (F : Fun K "_to_others" "Caller._to_others" s_Caller_to_others f fd) (S : CalT K C) : FnOk P w K mg base CX0 1 f fd ["self", "letter"] (spToO K C) := by
  refine F.ok sc_Caller_to_others (fun vs H Q E h => ?_) (fun cdv A outer s H vs Q E hr h => ?_)
  · obtain ⟨q, dx, lt, _, _, _, _, _, _, _, _, _, _, _, _, rfl, _⟩ := h
    rfl
  obtain ⟨q, dx, lt, ro, nu, pl, me, rnd, st, key, bg, rs, ms, ps, dl, rfl, A0, hl, nl, l60, k⟩ := h
  refine ⟨_, (pss_one (ps_ret (pe_lc (own := [("seat", 2)]) (g := gName 2)  (by rfl) sc_Caller_to_others.nd (pi_list (pe_fld (pv 0) (by rfl))) (blkOk_by (N := ["self", "letter", "seat"]) (sc := defScope s_Caller_to_others) (by decide +kernel)) (fun _ _ _ _ _ => pg_name (i := 2) sc_Caller_to_others.nd rfl (Or.inl rfl)) (fun _ _ _ _ _ => pts_one (pt_cmpR op_ne (pv 2) (pe_fldK K (pv 0)) (nomark _))) (fun _ _ _ _ _ => (pe_tup (pa_cons (pv 2) (pa_cons (pv 1) pa_nil))))))), ?_⟩
  refine ⟨_, rfl, q, C, dx, _, _, rfl, A0.hp, S.cl, S.roster, caF_ros _ _ _ _ _ _ _ _ _, ro, rfl, ⟨_, SqL.of A0.hr⟩, fun D hD => ?_⟩
  refine lc_dataI (K := K) (a := ro) (ns := rs) (fun s => !decide (s = me)) (toD dl) (by omega) (fun x _ => noL_to nl x) hD (SqL.of A0.hr) (fun i x G Y B hx sG h1 h2 => ?_) (fun G zs sG kD dz => k D zs G sG kD dz)
  have A1 := A0.same sG
  refine ⟨rfl, _, rfl, _, rfl, q, C, dx, _, _, rfl, A1.hp, S.cl, S.me, caF_me _ _ _ _ _ _ _ _ _, rfl, _, rfl, ?_⟩
  rw [dec_ii]
  cases c : (!decide (x = me)) with
  | true =>
    refine iteT ?_
    refine ⟨_, rfl, _, rfl, by show 2 ≤ sizeLine; decide, fun t ht => h1 c (.ref t) _ (same_upd ht) (.tup (SqT.of upd_same) (.cons (.int x) (.cons (dp_same (sG.trans (same_upd ht)) _ _ hl) .nil)))⟩
  | false => exact iteF (h2 c)
def learn (ms : List Int) (s v : Int) : List Int := ms.set s.toNat (if v > ms.getD s.toNat 0 then v else ms.getD s.toNat 0)
theorem learn_len {ms : List Int} {s v : Int} : (learn ms s v).length = ms.length := List.length_set
theorem ix_n {j n : Nat} (h : j < n) : ixN n (j : Int) = some j := by
  unfold ixN
  rw [if_pos (by omega), if_pos (by omega)]
  simp
theorem at_ms {ms : List Int} {s : Int} (h0 : 0 ≤ s) (h1 : s < ms.length) : atI (ms.map V.int) s = some (.int (ms.getD s.toNat 0)) := by
  obtain ⟨j, ej⟩ : ∃ j : Nat, s = (j : Int) := ⟨s.toNat, by omega⟩
  rw [ej]
  refine atI_nat ?_
  rw [List.getElem?_map, List.getElem?_eq_getElem (show j < ms.length by omega), show ((j : Int)).toNat = j from rfl, List.getD_eq_getElem?_getD, List.getElem?_eq_getElem (show j < ms.length by omega)]
  rfl
def spLearn (C : Addr) : Sp := fun vs H Q _ => ∃ (q dx ro nu pl : Addr) (me rnd s v : Int) (st : Str) (key bg : V) (rs ms : List Int) (ps : List (Key × V)), vs = [.ref q, .int s, .int v] ∧ CalAt H C q dx me st rnd ro nu key bg pl rs ms ps ∧ 0 ≤ s ∧ s < ms.length ∧
  Q .non (upd H nu (.lst ((learn ms s v).map V.int)))
theorem sc_Caller_learn : FnScope ["self", "seat", "number"] ["self", "seat", "number"] (defScope s_Caller_learn) :=
  ⟨rfl, rfl, rfl, by decide +kernel, rfl, by decide +kernel, by decide +kernel⟩
theorem ok_learn (F : Fun K "_learn" "Caller._learn" s_Caller_learn f fd) (T : BlM72 mg) (S : CalT K C) : FnOk P w K mg base CX0 1 f fd ["self", "seat", "number"] (spLearn C) := by
  refine F.ok sc_Caller_learn (fun vs H Q E h => ?_) (fun cdv A outer s H vs Q E hr h => ?_)
  · obtain ⟨q, dx, _, _, _, _, _, _, _, _, _, _, _, _, _, rfl, _⟩ := h
    rfl
  obtain ⟨q, dx, ro, nu, pl, me, rnd, s', v, st, key, bg, rs, ms, ps, rfl, A0, h0, h1, k⟩ := h
  refine ⟨_, (pss_one (ps_asg (pe_callB (call_max2 rfl) (by rfl) T.max (by decide +kernel) (pa_cons (pe_ix ix_list (pe_fld (pv 0) (by rfl)) (pv 1) (fun _ _ => rfl)) (pa_cons (pv 2) pa_nil))) (pg_sub (pe_fld (pv 0) (by rfl)) (pv 1) set_list))), ?_⟩
  have att := at_ms h0 h1
  refine ⟨_, rfl, q, C, dx, _, _, rfl, A0.hp, S.cl, S.numbers, caF_nms _ _ _ _ _ _ _ _ _, _, rfl, nu, _, _, _, rfl, rfl, SqL.of A0.hn, att, _, rfl, _, _, rfl, ?_⟩
  obtain ⟨j, ej⟩ : ∃ j : Nat, s' = (j : Int) := ⟨s'.toNat, by omega⟩
  refine ⟨_, rfl, q, C, dx, _, _, rfl, A0.hp, S.cl, S.numbers, caF_nms _ _ _ _ _ _ _ _ _, _, rfl, nu, _, _, s'.toNat, rfl, rfl, A0.hn, (by rw [List.length_map, ej]; exact ix_n (by omega)), ?_⟩
  unfold learn at k
  rw [List.map_set] at k
  exact k
end

end G0
namespace G0
open PySem PySem.Spec PyProof.Rows L2 NdefX ClX
section
variable {P : Program} {w : World} {K : PySem.W.Frag} {mg : Str → Option Value} {base : Heap} {C CK f : Addr} {fd : FuncData}
/-! ### handing on -/
def keyD (r : Int) (S : List (Int × Int)) (ns : List Int) : PyData := .tuple [.str "key", .int r, .tuple (S.map pairD), .tuple (ns.map PyData.int)]
theorem ca_ne_ke {C CK q k dx dk : Addr} {H : Hp} {me : Int} {st : Str} {rnd : Int} {ro nu : Addr} {key bg : V} {pl : Addr} {r : Int} {d l : Addr} (h1 : H q = some (.ins C dx (caF me st false rnd ro nu key bg pl))) (h2 : H k = some (.ins CK dk (keF r d l))) : q ≠ k := fun e => by
  rw [e, h2] at h1
  have h3 := Option.some.inj h1
  injection h3 with _ _ h4
  have := congrArg List.length h4
  simp [caF, keF] at this
/-- what is handed on: by the line ln -/
structure HandK (K : PySem.W.Frag) (C CK : Addr) (H : Hp) (Q : VK) (A : List Addr) (q dx k dk ro nu pl d : Addr) (me rnd r : Int) (st : Str) (bg : V) (rs ms : List Int) (ps : List (Key × V)) (S : List (Int × Int)) (ln : List Int) : Prop where
  none : ln = [] → ∀ z l' H', ChgS A H H' → H l' = .none → CalAt H' C q dx me st rnd ro nu (.ref k) bg pl rs ms ps → KeyAt H' CK k dk r d l' S [] → H' z = some (.lst []) → Q (.ref z) H'
  self : ∀ rest, ln = me :: rest → ∀ z l' H', ChgS A H H' → H l' = .none → CalAt H' C q dx me "in" rnd ro nu (.ref k) bg pl rs ms ps → KeyAt H' CK k dk r d l' S rest → H' z = some (.lst []) → Q (.ref z) H'
  give : ∀ t rest, ln = t :: rest → t ≠ me → ∀ z zs S' H', ChgS A H H' → CalAt H' C q dx me st rnd ro nu .non bg pl rs ms ps → S'.Perm S → (S'.map (·.1)).Pairwise (· ≤ ·) → H' z = some (.lst zs) → DpAll K H' zs [toD (keyD r S' rest) t] → Q (.ref z) H'
def spHandOn (K : PySem.W.Frag) (C CK : Addr) : Sp := fun vs H Q _ => ∃ (q dx k dk ro nu pl d l : Addr) (me rnd r : Int) (st : Str) (bg : V) (rs ms ns : List Int) (ps : List (Key × V)) (S : List (Int × Int)), vs = [.ref q] ∧ CalAt H C q dx me st rnd ro nu (.ref k) bg pl rs ms ps ∧ KeyAt H CK k dk r d l S ns ∧
  rs.Nodup ∧ (∀ m ∈ rs, 0 ≤ m ∧ m < ms.length) ∧ rs.length ≤ 60 ∧ ns.length ≤ 500 ∧ HandK K C CK H Q [q, k] q dx k dk ro nu pl d me rnd r st bg rs ms ps S (lineUp me rs ms S ns)
theorem told_at {H : Hp} {t : Addr} {r : Int} {S : List (Int × Int)} {ns : List Int} (h : Dp K H (.ref t) (toldD r S ns)) : ∃ u v, SqT K H t [.int r, .ref u, .ref v] ∧ Dp K H (.ref u) (.tuple (S.map pairD)) ∧ Dp K H (.ref v) (.tuple (ns.map PyData.int)) := by
  cases h with
  | tup hs ha =>
    cases ha with
    | cons h1 h2 =>
      cases h1
      cases h2 with
      | cons h3 h4 =>
        cases h4 with
        | cons h5 h6 =>
          cases h6
          cases h3 with
          | tup a1 a2 =>
            cases h5 with
            | tup b1 b2 => exact ⟨_, _, hs, .tup a1 a2, .tup b1 b2⟩
theorem CalAt.chg1 {H H' : Hp} {q dx : Addr} {me : Int} {st : Str} {rnd : Int} {ro nu : Addr} {key bg : V} {pl : Addr} {rs ms : List Int} {ps : List (Key × V)} (A : CalAt H C q dx me st rnd ro nu key bg pl rs ms ps) {p D d : Addr} {fs : List (Str × V)} (hp : H p = some (.ins D d fs)) (n : q ≠ p) (c : Chg p H H') : CalAt H' C q dx me st rnd ro nu key bg pl rs ms ps :=
  ⟨c _ _ n A.hp, c _ _ (ne_of A.hr hp (by intro z; cases z)) A.hr, c _ _ (ne_of A.hn hp (by intro z; cases z)) A.hn, c _ _ (ne_of A.hpl hp (by intro z; cases z)) A.hpl⟩
theorem CalAt.lst {H : Hp} {q dx : Addr} {me : Int} {st : Str} {rnd : Int} {ro nu : Addr} {key bg : V} {pl : Addr} {rs ms : List Int} {ps : List (Key × V)} (A : CalAt H C q dx me st rnd ro nu key bg pl rs ms ps) {p : Addr} {xs : List V} {o : HO} (hp : H p = some (.lst xs)) (n1 : ro ≠ p) (n2 : nu ≠ p) : CalAt (upd H p o) C q dx me st rnd ro nu key bg pl rs ms ps :=
  ⟨(upd_ne (ne_of A.hp hp (by intro z; cases z))).trans A.hp, (upd_ne n1).trans A.hr, (upd_ne n2).trans A.hn, (upd_ne (ne_of A.hpl hp (by intro z; cases z))).trans A.hpl⟩
theorem noL_pairs (S : List (Int × Int)) : noL (.tuple (S.map pairD)) = true := noLs_pairs S
theorem noLs_intsD : ∀ ns : List Int, noLs (ns.map PyData.int) = true
  | [] => rfl
  | n :: ns => by simp [noLs, noL, noLs_intsD ns]
theorem noL_key (r : Int) (S : List (Int × Int)) (ns : List Int) : noL (keyD r S ns) = true := by
  simp [keyD, noL, noLs, noLs_pairs, noLs_intsD]
theorem sc_Caller_hand_on : FnScope ["self", "to", "letter"] ["self"] (defScope s_Caller_hand_on) :=
  ⟨rfl, rfl, rfl, by decide +kernel, rfl, by decide +kernel, by decide +kernel⟩
theorem ok_handon (F : Fun K "_hand_on" "Caller._hand_on" s_Caller_hand_on f fd) (S : CalT K C) (KT : KeyT K CK) (ML : Me P w K mg base CK "line_up" 2 ["self", "behind", "roster", "numbers"] (spLineUp CK)) (MK : Me P w K mg base CK "take_first" 1 ["self"] (spTake CK)) (MT : Me P w K mg base CK "told" 1 ["self"] (spTold K CK)) :
    FnOk P w K mg base CX0 3 f fd ["self"] (spHandOn K C CK) := by
  obtain ⟨fL, fdL, GL, bL, mL⟩ := ML
  obtain ⟨fK, fdK, GK, bK, mK⟩ := MK
  obtain ⟨fT, fdT, GT, bT, mT⟩ := MT
  refine F.ok sc_Caller_hand_on (fun vs H Q E h => ?_) (fun cdv A outer s H vs Q E hr h => ?_)
  · obtain ⟨q, _, _, _, _, _, _, _, _, _, _, _, _, _, _, _, _, _, _, rfl, _⟩ := h
    rfl
  obtain ⟨q, dx, k, dk, ro, nu, pl, d, l, me, rnd, r, st, bg, rs, ms, ns, ps, SS, rfl, A0, K0, nd, bnd, l60, l500, HK⟩ := h
  have hr1 : Room 1 _ := hr.mono (by decide)
  refine ⟨_, (pss_cons (ps_expr (pe_meth (pe_fld (pv 0) (by rfl)) KT.cl mL GL hr bL .nil pass0 (pa_cons (pe_fld (pv 0) (by rfl)) (pa_cons (pe_fld (pv 0) (by rfl)) (pa_cons (pe_fld (pv 0) (by rfl)) pa_nil)))))
    (pss_cons (ps_set (i := 1) sc_Caller_hand_on.nd rfl (Or.inl rfl) (pe_meth0 (pe_fld (pv 0) (by rfl)) KT.cl mK GK hr1 bK .nil pass0))
    (pss_cons (ps_if (pt_cmpR op_isN (pv 1) pe_non (nomark _))
    (pss_one (ps_ret (pe_lst pa_nil)))
    pss_nil)
    (pss_cons (ps_if (pt_cmpR op_eq (pv 1) (pe_fld (pv 0) (by rfl)) (nomark _))
    (pss_cons (ps_fld (pv 0) pe_str rfl)
    (pss_one (ps_ret (pe_lst pa_nil))))
    pss_nil)
    (pss_cons (ps_set (i := 2) sc_Caller_hand_on.nd rfl (Or.inl rfl) (pe_op op_catA (pe_tup (pa_cons pe_str pa_nil)) (pe_meth0 (pe_fld (pv 0) (by rfl)) KT.cl mT GT hr1 bT .nil pass0)))
    (pss_cons (ps_fld (pv 0) pe_non rfl)
    (pss_one (ps_ret (pe_lst (pa_cons (pe_tup (pa_cons (pv 1) (pa_cons (pv 2) pa_nil))) pa_nil)))))))))), ?_⟩
  have kno := fun (d l : Addr) (x : Str) (h1 : x ≠ "round") (h2 : x ≠ "_served") (h3 : x ≠ "_line") => keF_no r d l h1 h2 h3
  refine ⟨_, rfl, q, C, dx, _, _, rfl, A0.hp, S.cl, S.key, caF_key _ _ _ _ _ _ _ _ _, k, dk, _, rfl, K0.hp, kno _ _ _ (by decide +kernel) (by decide +kernel) (by decide +kernel), _, rfl, q, C, dx, _, _, rfl, A0.hp, S.cl, S.me, caF_me _ _ _ _ _ _ _ _ _, _, rfl, q, C, dx, _, _, rfl, A0.hp, S.cl, S.roster, caF_ros _ _ _ _ _ _ _ _ _, _, rfl, q, C, dx, _, _, rfl, A0.hp, S.cl, S.numbers, caF_nms _ _ _ _ _ _ _ _ _, k, dk, ro, nu, r, me, d, l, SS, ns, rs, ms, rfl, K0, A0.hr, A0.hn, nd, bnd, l60, l500, fun l' H1 hl' c1 K1 => ?_⟩
  have qk := ca_ne_ke A0.hp K0.hp
  have A1 := A0.chg1 K0.hp qk c1
  have cs1 : ChgS [q, k] H H1 := Chg.s c1 (by simp)
  obtain ⟨ln, eln⟩ : ∃ ln, ln = lineUp me rs ms SS ns := ⟨_, rfl⟩
  rw [← eln] at HK K1
  refine ⟨_, rfl, q, C, dx, _, _, rfl, A1.hp, S.cl, S.key, caF_key _ _ _ _ _ _ _ _ _, k, dk, _, rfl, K1.hp, kno _ _ _ (by decide +kernel) (by decide +kernel) (by decide +kernel), k, dk, r, d, l', SS, ln, rfl, K1, ?_⟩
  rcases ln with _ | ⟨t, rest⟩
  · refine .inl ⟨rfl, ?_⟩
    refine ⟨_, rfl, rfl, _, rfl, iteT' rfl ?_⟩
    refine ⟨Nat.zero_le _, fun z hz => ?_⟩
    have sz := same_upd (o := .lst []) hz
    exact HK.none rfl z l' _ (cs1.new hz) hl' (A1.same sz) (K1.same sz) upd_same
  · refine .inr ⟨t, rest, rfl, ?_⟩
    have nr : ro ≠ l' := ne_of_none A0.hr hl'
    have nn : nu ≠ l' := ne_of_none A0.hn hl'
    have A2 := A1.lst (o := .lst (rest.map V.int)) K1.hl nr nn
    have K2 : KeyAt (upd H1 l' (.lst (rest.map V.int))) CK k dk r d l' SS rest := ⟨(upd_ne (ne_of K1.hp K1.hl (by intro z; cases z))).trans K1.hp, (upd_ne (ne_of K1.hd K1.hl (by intro z; cases z))).trans K1.hd, upd_same, K1.nd, K1.few, by have := K1.few2; rw [List.length_cons] at this; omega⟩
    have cs2 : ChgS [q, k] H (upd H1 l' (.lst (rest.map V.int))) := cs1.mut hl'
    obtain ⟨H2, e2⟩ : ∃ H2, H2 = upd H1 l' (.lst (rest.map V.int)) := ⟨_, rfl⟩
    rw [← e2] at A2 K2 cs2
    rw [← e2]
    refine ⟨_, rfl, rfl, _, rfl, iteF' rfl ?_⟩
    refine ⟨_, rfl, _, rfl, q, C, dx, _, _, rfl, A2.hp, S.cl, S.me, caF_me _ _ _ _ _ _ _ _ _, rfl, _, rfl, ?_⟩
    rw [dec_ii]
    by_cases et : t = me
    · refine iteT' (decide_eq_true et) ?_
      subst et
      refine ⟨_, rfl, q, C, dx, _, rfl, A2.hp, S.cl, S.state, (by show 9 < 1000; decide), ?_⟩
      rw [caF_put_stt]
      have cq : Chg q H2 (upd H2 q (.ins C dx (caF t "in" false rnd ro nu (.ref k) bg pl))) := Chg.self
      have A3 : CalAt (upd H2 q (.ins C dx (caF t "in" false rnd ro nu (.ref k) bg pl))) C q dx t "in" rnd ro nu (.ref k) bg pl rs ms ps := ⟨upd_same, cq _ _ (ne_of A2.hr A2.hp (by intro z; cases z)) A2.hr, cq _ _ (ne_of A2.hn A2.hp (by intro z; cases z)) A2.hn, cq _ _ (ne_of A2.hpl A2.hp (by intro z; cases z)) A2.hpl⟩
      have K3 := K2.chg A2.hp qk.symm cq
      refine ⟨Nat.zero_le _, fun z hz => ?_⟩
      have sz := same_upd (o := .lst []) hz
      exact HK.self rest rfl z l' _ ((cs2.put (by simp)).new hz) hl' (A3.same sz) (K3.same sz) upd_same
    · refine iteF' (decide_eq_false et) ?_
      refine ⟨by show 1 ≤ sizeLine; decide, fun t1 ht1 => ?_⟩
      have s3 := same_upd (o := .tup [.str "key"]) ht1
      have A3 := A2.same s3
      have K3 := K2.same s3
      refine ⟨_, rfl, q, C, dx, _, _, rfl, A3.hp, S.cl, S.key, caF_key _ _ _ _ _ _ _ _ _, k, dk, _, rfl, K3.hp, kno _ _ _ (by decide +kernel) (by decide +kernel) (by decide +kernel), k, dk, r, d, l', SS, rest, rfl, K3, fun t2 S' H4 s4 pS uS dT => ?_⟩
      obtain ⟨u, v, q2, du, dv⟩ := told_at dT
      refine cat_anyk (sqt_same s4 (SqT.of upd_same)) q2 (by show 1 + 3 ≤ 10000; decide) fun t3 H5 s5 q3 => ?_
      have A5 := (A3.same s4).same s5
      have s25 := (s3.trans s4).trans s5
      have cs5 : ChgS [q, k] H H5 := cs2.trans (Same.s s25)
      refine ⟨_, rfl, q, C, dx, _, rfl, A5.hp, S.cl, S.key, (by show 9 < 1000; decide), ?_⟩
      rw [caF_put_key]
      have cq : Chg q H5 (upd H5 q (.ins C dx (caF me st false rnd ro nu .non bg pl))) := Chg.self
      have A6 : CalAt (upd H5 q (.ins C dx (caF me st false rnd ro nu .non bg pl))) C q dx me st rnd ro nu .non bg pl rs ms ps := ⟨upd_same, cq _ _ (ne_of A5.hr A5.hp (by intro z; cases z)) A5.hr, cq _ _ (ne_of A5.hn A5.hp (by intro z; cases z)) A5.hn, cq _ _ (ne_of A5.hpl A5.hp (by intro z; cases z)) A5.hpl⟩
      have d5 : Dp K H5 (.ref t3) (keyD r S' rest) := .tup q3 (.cons (.str _) (.cons (.int _) (.cons (dp_same s5 _ _ du) (.cons (dp_same s5 _ _ dv) .nil))))
      have d6 := dp_chgI A5.hp cq _ _ d5
      refine ⟨_, rfl, _, rfl, by show 2 ≤ sizeLine; decide, fun t6 ht6 => ?_⟩
      have s7 := same_upd (o := .tup [.int t, .ref t3]) ht6
      refine ⟨by show 1 ≤ sizeLine; decide, fun z hz => ?_⟩
      have s8 := same_upd (o := .lst [.ref t6]) hz
      exact HK.give t rest rfl et z [.ref t6] S' _ (((cs5.put (by simp)).new ht6).new hz) ((A6.same s7).same s8) pS uS upd_same (.cons (.tup (SqT.of (s8 _ _ upd_same)) (.cons (.int t) (.cons (dp_same (s7.trans s8) _ _ d6) .nil))) .nil)
end

end G0
namespace G0
open PySem PySem.Spec PyProof.Rows L2 NdefX ClX
/-! ### xs[j] += e -/
def rGetL0 (K : PySem.W.Frag) : V → V → Hp → VK → Prop := fun o i H Q => ∃ (p : Addr) (xs : List V) (j : Nat) (z : V), o = .ref p ∧ i = .int (j : Nat) ∧ SqL K H p xs ∧ xs[j]? = some z ∧ j < 1000000 ∧ Q z H
theorem pget_list {X : Cx} : PGet X (rGetL0 X.K) := by
  rintro pins s σ H o i ov iv Q I ro ri ⟨p, xs, j, z, rfl, rfl, hq, hz, lj, q⟩
  cases ro
  obtain ⟨t, rfl⟩ := ri
  obtain ⟨its, r, pl, _⟩ := I.list hq
  obtain ⟨u, eu, ru⟩ := r.get hz
  exact wpAny_getItem_list pl.isList (by omega) (by omega) (by simpa using eu) ⟨z, H, I, ru, q⟩
section
variable {P : Program} {w : World} {K : PySem.W.Frag} {mg : Str → Option Value} {base : Heap} {C CK f : Addr} {fd : FuncData}
theorem HandK.from {H H1 : Hp} {Q : VK} {A B A' : List Addr} {q dx k dk ro nu pl d : Addr} {me rnd r : Int} {st : Str} {bg : V} {rs ms : List Int} {ps : List (Key × V)} {S : List (Int × Int)} {ln : List Int} (h : HandK K C CK H Q A q dx k dk ro nu pl d me rnd r st bg rs ms ps S ln)
    (c : ChgS A' H H1) (s1 : ∀ a ∈ A', a ∈ A) (s2 : ∀ a ∈ B, a ∈ A) (al : ∀ a ∈ A', H1 a ≠ .none) : HandK K C CK H1 Q B q dx k dk ro nu pl d me rnd r st bg rs ms ps S ln := by
  have go : ∀ {H' : Hp}, ChgS B H1 H' → ChgS A H H' := fun c2 => (c.mono s1).trans (c2.mono s2)
  have bk : ∀ {x : Addr}, H1 x = .none → H x = .none := fun {x} e => c.back e fun m => al x m e
  exact ⟨fun e z l' H' c2 hl => h.none e z l' H' (go c2) (bk hl), fun rest e z l' H' c2 hl => h.self rest e z l' H' (go c2) (bk hl), fun t rest e n z zs S' H' c2 => h.give t rest e n z zs S' H' (go c2)⟩
theorem dec_refn {a : Addr} : decide (V.ref a = V.non) = false := decide_eq_false fun h => nomatch h
theorem dec_str {a b : Str} : decide (V.str a = V.str b) = decide (a = b) := decide_eq_decide.mpr ⟨fun h => by cases h; rfl, fun h => by rw [h]⟩
/-! ### an ask is heard -/
def spHearAsk (K : PySem.W.Frag) (C CK : Addr) : Sp := fun vs H Q _ => ∃ (q dx ro nu pl : Addr) (me rnd s v : Int) (st : Str) (key bg : V) (rs ms : List Int) (ps : List (Key × V)), vs = [.ref q, .int s, .int v] ∧ CalAt H C q dx me st rnd ro nu key bg pl rs ms ps ∧ 0 ≤ s ∧ s < ms.length ∧ ro ≠ nu ∧
  (((key = .non ∨ (st = "in" ∧ ∃ a, key = .ref a)) ∧ ∀ z H', ChgS [nu] H H' → CalAt H' C q dx me st rnd ro nu key bg pl rs (learn ms s v) ps → H' z = some (.lst []) → Q (.ref z) H') ∨
    ∃ (k dk d l : Addr) (r : Int) (S : List (Int × Int)) (ns : List Int), key = .ref k ∧ st ≠ "in" ∧ KeyAt H CK k dk r d l S ns ∧ l ≠ nu ∧ rs.Nodup ∧ (∀ m ∈ rs, 0 ≤ m ∧ m < ms.length) ∧ rs.length ≤ 60 ∧ ns.length ≤ 500 ∧
      HandK K C CK H Q [q, k, nu] q dx k dk ro nu pl d me rnd r st bg rs (learn ms s v) ps S (lineUp me rs (learn ms s v) S ns))
theorem sc_Caller_hear_ask : FnScope ["self", "sender", "number"] ["self", "sender", "number"] (defScope s_Caller_hear_ask) :=
  ⟨rfl, rfl, rfl, by decide +kernel, rfl, by decide +kernel, by decide +kernel⟩
theorem ok_hearask (F : Fun K "_hear_ask" "Caller._hear_ask" s_Caller_hear_ask f fd) (S : CalT K C) (ML : Me P w K mg base C "_learn" 1 ["self", "seat", "number"] (spLearn C)) (MH : Me P w K mg base C "_hand_on" 3 ["self"] (spHandOn K C CK)) :
    FnOk P w K mg base CX0 4 f fd ["self", "sender", "number"] (spHearAsk K C CK) := by
  obtain ⟨fL, fdL, GL, bL, mL⟩ := ML
  obtain ⟨fH, fdH, GH, bH, mH⟩ := MH
  refine F.ok sc_Caller_hear_ask (fun vs H Q E h => ?_) (fun cdv A outer s H vs Q E hr h => ?_)
  · obtain ⟨q, _, _, _, _, _, _, _, _, _, _, _, _, _, _, rfl, _⟩ := h
    rfl
  obtain ⟨q, dx, ro, nu, pl, me, rnd, s', v, st, key, bg, rs, ms, ps, rfl, A0, h0, h1, rn, two⟩ := h
  have hr1 : Room 1 _ := hr.mono (by decide)
  refine ⟨_, (pss_cons (ps_expr (pe_meth (pv 0) S.cl mL GL hr1 bL .nil pass0 (pa_cons (pv 1) (pa_cons (pv 2) pa_nil))))
    (pss_cons (ps_if (PW.pt (pw_or (pt_cmpR op_isN (pe_fld (pv 0) (by rfl)) pe_non (nomark _)) (pw_or1 (pt_cmpR op_eq (pe_fld (pv 0) (by rfl)) pe_str (nomark _)))))
    (pss_one (ps_ret (pe_lst pa_nil)))
    pss_nil)
    (pss_one (ps_ret (pe_meth0 (pv 0) S.cl mH GH hr bH .nil pass0))))), ?_⟩
  refine ⟨_, rfl, q, dx, _, rfl, A0.hp, (A0.no "_learn").2, _, rfl, _, rfl, q, dx, ro, nu, pl, me, rnd, s', v, st, key, bg, rs, ms, ps, rfl, A0, h0, h1, ?_⟩
  have c1 : ChgS [nu] H (upd H nu (.lst ((learn ms s' v).map V.int))) := ChgS.refl.put (by simp)
  have A1 : CalAt (upd H nu (.lst ((learn ms s' v).map V.int))) C q dx me st rnd ro nu key bg pl rs (learn ms s' v) ps := ⟨(upd_ne (ne_of A0.hp A0.hn (by intro z; cases z))).trans A0.hp, (upd_ne rn).trans A0.hr, upd_same, (upd_ne (ne_of A0.hpl A0.hn (by intro z; cases z))).trans A0.hpl⟩
  have kk : ∀ {a : Addr} {o : HO}, H a = some o → a ≠ nu → upd H nu (.lst ((learn ms s' v).map V.int)) a = some o := fun e n => (upd_ne n).trans e
  have al : upd H nu (.lst ((learn ms s' v).map V.int)) nu ≠ none := by rw [upd_same]; exact fun z => nomatch z
  obtain ⟨H1, e1⟩ : ∃ H1, H1 = upd H nu (.lst ((learn ms s' v).map V.int)) := ⟨_, rfl⟩
  rw [← e1] at c1 A1 al
  rw [← e1]
  rcases two with ⟨hk, k⟩ | ⟨ka, dk, d, l, r, SS, ns, rfl, nin, K0, lnu, nd, bnd, l60, l500, HK⟩
  · refine ⟨_, rfl, q, C, dx, _, _, rfl, A1.hp, S.cl, S.key, caF_key _ _ _ _ _ _ _ _ _, rfl, _, rfl, ?_⟩
    have fin : ∀ z, H1 z = none → Q (.ref z) (upd H1 z (.lst [])) := fun z hz => k z _ (c1.new hz) (A1.same (same_upd hz)) upd_same
    rcases hk with rfl | ⟨rfl, a, rfl⟩
    · exact iteT' rfl ⟨Nat.zero_le _, fin⟩
    · refine iteF' dec_refn ?_
      refine ⟨_, rfl, q, C, dx, _, _, rfl, A1.hp, S.cl, S.state, caF_stt _ _ _ _ _ _ _ _ _, rfl, _, rfl, iteT' (by decide +kernel) ?_⟩
      exact ⟨Nat.zero_le _, fin⟩
  · refine ⟨_, rfl, q, C, dx, _, _, rfl, A1.hp, S.cl, S.key, caF_key _ _ _ _ _ _ _ _ _, rfl, _, rfl, iteF' dec_refn ?_⟩
    refine ⟨_, rfl, q, C, dx, _, _, rfl, A1.hp, S.cl, S.state, caF_stt _ _ _ _ _ _ _ _ _, rfl, _, rfl, iteF' (by rw [dec_str]; exact decide_eq_false nin) ?_⟩
    have K1 : KeyAt H1 CK ka dk r d l SS ns := by
      rw [e1]
      exact { K0 with hp := kk K0.hp (ne_of K0.hp A0.hn (by intro z; cases z)), hd := kk K0.hd (ne_of K0.hd A0.hn (by intro z; cases z)), hl := kk K0.hl lnu }
    exact ⟨_, rfl, q, dx, _, rfl, A1.hp, (A1.no "_hand_on").2, q, dx, ka, dk, ro, nu, pl, d, l, me, rnd, r, st, bg, rs, learn ms s' v, ns, ps, SS, rfl, A1, K1, nd, by rw [learn_len]; exact bnd, l60, l500, HK.from c1 (by simp) (by simp) (fun a ha => by rw [List.mem_singleton.mp ha]; exact al)⟩
/-! ### it asks -/
def inc (ms : List Int) (m : Int) : List Int := ms.set m.toNat (ms.getD m.toNat 0 + 1)
def askD (n : Int) : PyData := .tuple [.str "ask", .int n]
def spAskC (K : PySem.W.Frag) (C : Addr) : Sp := fun vs H Q _ => ∃ (q dx ro nu pl : Addr) (me rnd : Int) (st : Str) (key bg : V) (rs ms : List Int) (ps : List (Key × V)), vs = [.ref q] ∧ CalAt H C q dx me st rnd ro nu key bg pl rs ms ps ∧ 0 ≤ me ∧ me < ms.length ∧ ms.length ≤ 60 ∧ ro ≠ nu ∧ rs.length ≤ 60 ∧
  (((∃ a, key = .ref a) ∧ ∀ z H', ChgS [q, nu] H H' → CalAt H' C q dx me "in" rnd ro nu key bg pl rs (inc ms me) ps → H' z = some (.lst []) → Q (.ref z) H') ∨
    (key = .non ∧ ∀ z zs H', ChgS [q, nu] H H' → CalAt H' C q dx me "asking" rnd ro nu key bg pl rs (inc ms me) ps → H' z = some (.lst zs) → DpAll K H' zs ((othR rs me).map (toD (askD (ms.getD me.toNat 0 + 1)))) → Q (.ref z) H'))
theorem sc_Caller_ask : FnScope ["self"] ["self"] (defScope s_Caller_ask) :=
  ⟨rfl, rfl, rfl, by decide +kernel, rfl, by decide +kernel, by decide +kernel⟩
theorem ok_askC (F : Fun K "ask" "Caller.ask" s_Caller_ask f fd) (S : CalT K C) (MO : Me P w K mg base C "_to_others" 1 ["self", "letter"] (spToO K C)) : FnOk P w K mg base CX0 2 f fd ["self"] (spAskC K C) := by
  obtain ⟨fO, fdO, GO, bO, mO⟩ := MO
  refine F.ok sc_Caller_ask (fun vs H Q E h => ?_) (fun cdv A outer s H vs Q E hr h => ?_)
  · obtain ⟨q, _, _, _, _, _, _, _, _, _, _, _, _, rfl, _⟩ := h
    rfl
  obtain ⟨q, dx, ro, nu, pl, me, rnd, st, key, bg, rs, ms, ps, rfl, A0, h0, h1, m60, rn, l60, two⟩ := h
  refine ⟨_, (pss_cons (ps_augS (pe_fld (pv 0) (by rfl)) (pe_fld (pv 0) (by rfl)) pget_list pe_int ip_add set_list)
    (pss_cons (ps_if (pt_cmpR op_notN (pe_fld (pv 0) (by rfl)) pe_non (nomark _))
    (pss_cons (ps_fld (pv 0) pe_str rfl)
    (pss_one (ps_ret (pe_lst pa_nil))))
    pss_nil)
    (pss_cons (ps_fld (pv 0) pe_str rfl)
    (pss_one (ps_ret (pe_meth (pv 0) S.cl mO GO hr bO .nil pass0 (pa_cons (pe_tup (pa_cons pe_str (pa_cons (pe_ix ix_list (pe_fld (pv 0) (by rfl)) (pe_fld (pv 0) (by rfl)) (fun _ _ => rfl)) pa_nil))) pa_nil))))))), ?_⟩
  obtain ⟨j, ej⟩ : ∃ j : Nat, me = (j : Int) := ⟨me.toNat, by omega⟩
  have jl : j < ms.length := by omega
  have eg : ms.getD me.toNat 0 = ms[j] := by rw [ej, show ((j : Int)).toNat = j from rfl, List.getD_eq_getElem?_getD, List.getElem?_eq_getElem jl]; rfl
  refine ⟨_, rfl, q, C, dx, _, _, rfl, A0.hp, S.cl, S.numbers, caF_nms _ _ _ _ _ _ _ _ _, _, rfl, q, C, dx, _, _, rfl, A0.hp, S.cl, S.me, caF_me _ _ _ _ _ _ _ _ _, nu, _, j, _, rfl, by rw [ej], SqL.of A0.hn, (by rw [List.getElem?_map, List.getElem?_eq_getElem jl]; rfl), by omega, _, _, rfl, rfl, nu, _, _, j, rfl, rfl, A0.hn, (by rw [List.length_map, ej]; exact ix_n jl), ?_⟩
  have ei : (ms.map V.int).set j (.int (ms[j] + 1)) = (inc ms me).map V.int := by
    unfold inc
    rw [eg, ej, List.map_set]
    rfl
  rw [ei]
  have c1 : ChgS [q, nu] H (upd H nu (.lst ((inc ms me).map V.int))) := ChgS.refl.put (by simp)
  have A1 : CalAt (upd H nu (.lst ((inc ms me).map V.int))) C q dx me st rnd ro nu key bg pl rs (inc ms me) ps := ⟨(upd_ne (ne_of A0.hp A0.hn (by intro z; cases z))).trans A0.hp, (upd_ne rn).trans A0.hr, upd_same, (upd_ne (ne_of A0.hpl A0.hn (by intro z; cases z))).trans A0.hpl⟩
  obtain ⟨H1, e1⟩ : ∃ H1, H1 = upd H nu (.lst ((inc ms me).map V.int)) := ⟨_, rfl⟩
  rw [← e1] at c1 A1
  rw [← e1]
  refine ⟨_, rfl, q, C, dx, _, _, rfl, A1.hp, S.cl, S.key, caF_key _ _ _ _ _ _ _ _ _, rfl, _, rfl, ?_⟩
  rcases two with ⟨⟨a, rfl⟩, k⟩ | ⟨rfl, k⟩
  · refine iteT' (by rw [dec_refn]; rfl) ?_
    refine ⟨_, rfl, q, C, dx, _, rfl, A1.hp, S.cl, S.state, (by show 9 < 1000; decide), ?_⟩
    rw [caF_put_stt]
    have cq : Chg q H1 (upd H1 q (.ins C dx (caF me "in" false rnd ro nu (.ref a) bg pl))) := Chg.self
    have A2 : CalAt (upd H1 q (.ins C dx (caF me "in" false rnd ro nu (.ref a) bg pl))) C q dx me "in" rnd ro nu (.ref a) bg pl rs (inc ms me) ps := ⟨upd_same, cq _ _ (ne_of A1.hr A1.hp (by intro z; cases z)) A1.hr, cq _ _ (ne_of A1.hn A1.hp (by intro z; cases z)) A1.hn, cq _ _ (ne_of A1.hpl A1.hp (by intro z; cases z)) A1.hpl⟩
    have c2 : ChgS [q, nu] H (upd H1 q (.ins C dx (caF me "in" false rnd ro nu (.ref a) bg pl))) := c1.put (by simp)
    obtain ⟨H2, e2⟩ : ∃ H2, H2 = upd H1 q (.ins C dx (caF me "in" false rnd ro nu (.ref a) bg pl)) := ⟨_, rfl⟩
    rw [← e2] at c2 A2
    rw [← e2]
    exact ⟨Nat.zero_le _, fun z hz => k z _ (c2.new hz) (A2.same (same_upd hz)) upd_same⟩
  · refine iteF' rfl ?_
    refine ⟨_, rfl, q, C, dx, _, rfl, A1.hp, S.cl, S.state, (by show 9 < 1000; decide), ?_⟩
    rw [caF_put_stt]
    have cq : Chg q H1 (upd H1 q (.ins C dx (caF me "asking" false rnd ro nu (.non) bg pl))) := Chg.self
    have A2 : CalAt (upd H1 q (.ins C dx (caF me "asking" false rnd ro nu (.non) bg pl))) C q dx me "asking" rnd ro nu (.non) bg pl rs (inc ms me) ps := ⟨upd_same, cq _ _ (ne_of A1.hr A1.hp (by intro z; cases z)) A1.hr, cq _ _ (ne_of A1.hn A1.hp (by intro z; cases z)) A1.hn, cq _ _ (ne_of A1.hpl A1.hp (by intro z; cases z)) A1.hpl⟩
    have c2 : ChgS [q, nu] H (upd H1 q (.ins C dx (caF me "asking" false rnd ro nu (.non) bg pl))) := c1.put (by simp)
    obtain ⟨H2, e2⟩ : ∃ H2, H2 = upd H1 q (.ins C dx (caF me "asking" false rnd ro nu (.non) bg pl)) := ⟨_, rfl⟩
    rw [← e2] at c2 A2
    rw [← e2]
    refine ⟨_, rfl, q, dx, _, rfl, A2.hp, (A2.no "_to_others").2, _, rfl, q, C, dx, _, _, rfl, A2.hp, S.cl, S.numbers, caF_nms _ _ _ _ _ _ _ _ _, _, rfl, q, C, dx, _, _, rfl, A2.hp, S.cl, S.me, caF_me _ _ _ _ _ _ _ _ _, nu, _, _, .int (ms.getD me.toNat 0 + 1), rfl, rfl, SqL.of A2.hn, ?_, ?_⟩
    · rw [at_ms h0 (by unfold inc; rw [List.length_set]; exact h1)]
      unfold inc
      rw [eg, ej, show ((j : Int)).toNat = j from rfl, List.getD_eq_getElem?_getD, List.getElem?_set_self jl]
      rfl
    refine ⟨by show 2 ≤ sizeLine; decide, fun t ht => ?_⟩
    have s3 := same_upd (o := .tup [.str "ask", .int (ms.getD me.toNat 0 + 1)]) ht
    exact ⟨q, dx, t, ro, nu, pl, me, rnd, "asking", .non, bg, rs, inc ms me, ps, askD (ms.getD me.toNat 0 + 1), rfl, A2.same s3, .tup (SqT.of upd_same) (.cons (.str _) (.cons (.int _) .nil)), by simp [askD, noL, noLs], l60, fun l zs H' s' kl dz => k l zs H' (c2.trans (Same.s (s3.trans s'))) ((A2.same s3).same s') kl dz⟩
end

end G0
namespace G0
open PySem PySem.Spec PyProof.Rows L2 NdefX ClX
/-! ### numbers by seat -/
def msF (n : Int) (f : Int → Int) : List Int := (rangeI n).map f
def sF (n : Int) (g : Int → Int) : List (Int × Int) := (rangeI n).map fun m => (m, g m)
theorem rangeI_at {n : Int} {j : Nat} (h : (j : Int) < n) : (rangeI n)[j]? = some (j : Int) := by
  unfold rangeI
  rw [List.getElem?_map, List.getElem?_range (by omega)]
  rfl
theorem rangeI_mem {n m : Int} : m ∈ rangeI n ↔ 0 ≤ m ∧ m < n := by
  unfold rangeI
  rw [List.mem_map]
  constructor
  · rintro ⟨x, hx, rfl⟩
    have := List.mem_range.mp hx
    omega
  · rintro ⟨h0, h1⟩
    exact ⟨m.toNat, List.mem_range.mpr (by omega), by omega⟩
theorem msF_len {n : Int} {f : Int → Int} : (msF n f).length = n.toNat := by unfold msF; rw [List.length_map, rangeI_len]
theorem msF_get {n : Int} {f : Int → Int} {m : Int} (h0 : 0 ≤ m) (h1 : m < n) : (msF n f).getD m.toNat 0 = f m := by
  unfold msF
  rw [List.getD_eq_getElem?_getD, List.getElem?_map, rangeI_at (by omega)]
  show f ((m.toNat : Nat) : Int) = f m
  rw [show ((m.toNat : Nat) : Int) = m by omega]
def updI (f : Int → Int) (s v : Int) : Int → Int := fun m => if m = s then v else f m
theorem msF_set {n : Int} {f : Int → Int} {s v : Int} (h0 : 0 ≤ s) : (msF n f).set s.toNat v = msF n (updI f s v) := by
  unfold msF
  refine List.ext_getElem? fun i => ?_
  rw [List.getElem?_set, List.getElem?_map, List.getElem?_map, List.length_map]
  by_cases c : s.toNat = i
  · rw [if_pos c]
    by_cases l : s.toNat < (rangeI n).length
    · rw [if_pos l]
      rw [rangeI_len] at l
      rw [rangeI_at (by omega)]
      show some v = some (updI f s v (i : Int))
      unfold updI
      rw [if_pos (by omega)]
    · rw [if_neg l, List.getElem?_eq_none (by omega)]
      rfl
  · rw [if_neg c]
    cases e : (rangeI n)[i]? with
    | none => rfl
    | some x =>
      have li := (List.getElem?_eq_some_iff.mp e).1
      rw [rangeI_len] at li
      rw [rangeI_at (by omega)] at e
      cases e
      show some (f (i : Int)) = some (updI f s v (i : Int))
      unfold updI
      rw [if_neg (by omega)]
theorem learn_F {n : Int} {f : Int → Int} {s v : Int} (h0 : 0 ≤ s) (h1 : s < n) : learn (msF n f) s v = msF n (updI f s (if v > f s then v else f s)) := by
  unfold learn
  rw [msF_get h0 h1, msF_set h0]
theorem inc_F {n : Int} {f : Int → Int} {s : Int} (h0 : 0 ≤ s) (h1 : s < n) : inc (msF n f) s = msF n (updI f s (f s + 1)) := by
  unfold inc
  rw [msF_get h0 h1, msF_set h0]
theorem zeros_F {n : Int} : zeros n = msF n fun _ => 0 := by
  unfold zeros msF
  refine List.ext_getElem? fun i => ?_
  rw [List.getElem?_replicate, List.getElem?_map]
  by_cases c : i < n.toNat
  · rw [if_pos c, rangeI_at (by omega)]
    rfl
  · rw [if_neg c, List.getElem?_eq_none (by rw [rangeI_len]; omega)]
    rfl
theorem fresh_F {n : Int} : freshS n = sF n fun _ => 0 := rfl
theorem sF_fst {n : Int} {g : Int → Int} : (sF n g).map (·.1) = rangeI n := by
  unfold sF
  rw [List.map_map]
  exact List.map_id _
theorem sF_nd {n : Int} {g : Int → Int} : ((sF n g).map (·.1)).Nodup := by rw [sF_fst]; exact rangeI_nd n
theorem sF_len {n : Int} {g : Int → Int} : (sF n g).length = n.toNat := by unfold sF; rw [List.length_map, rangeI_len]
theorem srv_F {n : Int} {g : Int → Int} {s v : Int} : srvS (sF n g) s v = sF n (updI g s v) := by
  unfold srvS sF
  rw [List.map_map]
  refine List.map_congr_left fun m _ => ?_
  show (if m = s then (s, v) else (m, g m)) = (m, updI g s v m)
  unfold updI
  by_cases c : m = s
  · rw [if_pos c, if_pos c, c]
  · rw [if_neg c, if_neg c]
theorem due_F {n : Int} {g : Int → Int} {m v : Int} (h0 : 0 ≤ m) (h1 : m < n) : dueS (sF n g) m v = decide (g m < v) := by
  unfold dueS
  rw [ent_some (p := (m, g m)) sF_nd (by unfold sF; exact List.mem_map.mpr ⟨m, rangeI_mem.mpr ⟨h0, h1⟩, rfl⟩)]
theorem pair_eq {n : Int} {g : Int → Int} {S' : List (Int × Int)} (p : S'.Perm (sF n g)) (u : (S'.map (·.1)).Pairwise (· ≤ ·)) : S' = sF n g := by
  have p1 : (S'.map (·.1)).Perm (rangeI n) := by
    have := p.map (·.1)
    rw [sF_fst] at this
    exact this
  have r : (rangeI n).Pairwise (· ≤ ·) := by
    unfold rangeI
    exact List.pairwise_map.mpr (List.Pairwise.imp (fun h => by omega) List.pairwise_lt_range)
  have e : S'.map (·.1) = rangeI n := List.Perm.eq_of_pairwise (fun _ _ _ _ h1 h2 => Int.le_antisymm h1 h2) u r p1
  have each : ∀ q ∈ S', q = (q.1, g q.1) := fun q hq => by
    have := p.mem_iff.mp hq
    unfold sF at this
    obtain ⟨m, _, rfl⟩ := List.mem_map.mp this
    rfl
  unfold sF
  rw [← e, List.map_map]
  refine (List.map_id S').symm.trans (List.map_congr_left fun q hq => ?_)
  exact each q hq
/-! ### the order of a line -/
def rgI (a b : Int) : List Int := (List.range (b - a).toNat).map fun x : Nat => a + (x : Int)
theorem rgV_I {a b : Int} : rgV a b = (rgI a b).map V.int := by
  unfold rgV rgI
  rw [List.map_map]
  rfl
theorem rgI_mem {a b m : Int} : m ∈ rgI a b ↔ a ≤ m ∧ m < b := by
  unfold rgI
  rw [List.mem_map]
  constructor
  · rintro ⟨x, hx, rfl⟩
    have := List.mem_range.mp hx
    omega
  · rintro ⟨h0, h1⟩
    exact ⟨(m - a).toNat, List.mem_range.mpr (by omega), by omega⟩
theorem rgI_up {a b : Int} : (rgI a b).Pairwise (· < ·) := by
  unfold rgI
  exact List.pairwise_map.mpr (List.Pairwise.imp (fun h => by omega) List.pairwise_lt_range)
theorem rangeI_up {n : Int} : (rangeI n).Pairwise (· < ·) := by
  unfold rangeI
  exact List.pairwise_map.mpr (List.Pairwise.imp (fun h => by omega) List.pairwise_lt_range)
theorem up_ext {l m : List Int} (hl : l.Pairwise (· < ·)) (hm : m.Pairwise (· < ·)) (h : ∀ x, x ∈ l ↔ x ∈ m) : l = m := by
  have p : l.Perm m := (List.perm_ext_iff_of_nodup (hl.imp fun h => by omega) (hm.imp fun h => by omega)).mpr h
  exact List.Perm.eq_of_pairwise (fun a b _ _ (h1 : a ≤ b) h2 => Int.le_antisymm h1 h2) (hl.imp fun h => by omega) (hm.imp fun h => by omega) p
theorem ordR_range {n b : Int} (h0 : 0 ≤ b) (h1 : b < n) : ordR (rangeI n) b = rgI (b + 1) n ++ rgI 0 (b + 1) := by
  unfold ordR
  rw [up_ext (rangeI_up.filter _) rgI_up (m := rgI (b + 1) n) (fun x => by rw [List.mem_filter, rangeI_mem, rgI_mem, decide_eq_true_eq]; omega), up_ext (rangeI_up.filter _) rgI_up (m := rgI 0 (b + 1)) (fun x => by rw [List.mem_filter, rangeI_mem, rgI_mem, decide_eq_true_eq]; omega)]
/-- who is in `some`, from the one behind b on -/
def rndF (n b : Int) (p : Int → Bool) : List Int := (rgI (b + 1) n ++ rgI 0 (b + 1)).filter p
theorem rndF_mem {n b m : Int} {p : Int → Bool} (h0 : 0 ≤ b) (h1 : b < n) : m ∈ rndF n b p ↔ (0 ≤ m ∧ m < n) ∧ p m = true := by
  unfold rndF
  rw [List.mem_filter, List.mem_append, rgI_mem, rgI_mem]
  constructor
  · rintro ⟨h, hp⟩
    exact ⟨by omega, hp⟩
  · rintro ⟨h, hp⟩
    exact ⟨by omega, hp⟩
theorem lineUp_F {n b : Int} {f g : Int → Int} {ns : List Int} (h0 : 0 ≤ b) (h1 : b < n) (hn : ∀ m ∈ ns, 0 ≤ m ∧ m < n) : lineUp b (rangeI n) (msF n f) (sF n g) ns = ns ++ rndF n b fun m => !decide (m ∈ ns) && decide (g m < f m) := by
  have ek : keepL ns (rangeI n) = ns := by
    unfold keepL
    exact List.filter_eq_self.mpr fun m hm => decide_eq_true (rangeI_mem.mpr (hn m hm))
  unfold lineUp rndF
  rw [ek, ordR_range h0 h1]
  refine congrArg _ (List.filter_congr fun m hm => ?_)
  have mb : 0 ≤ m ∧ m < n := by
    rcases List.mem_append.mp hm with z | z <;> have := rgI_mem.mp z <;> omega
  rw [due_F mb.1 mb.2, msF_get mb.1 mb.2]
theorem lineUp_len {n b : Int} {p : Int → Bool} (h0 : 0 ≤ b) (h1 : b < n) (h2 : n ≤ 60) : (rndF n b p).length ≤ 60 := by
  unfold rndF
  refine Nat.le_trans (List.length_filter_le _ _) ?_
  rw [List.length_append]
  unfold rgI
  rw [List.length_map, List.length_map, List.length_range, List.length_range]
  omega

end G0
namespace G0
open PySem PySem.Spec PyProof.Rows L2 NdefX ClX
section
variable {P : Program} {w : World} {K : PySem.W.Frag} {mg : Str → Option Value} {base : Heap} {C CK f : Addr} {fd : FuncData}
/-! ### pledges -/
/-- what has been pledged: the seat, its number that is owed; nobody has the key -/
inductive PlD (K : PySem.W.Frag) (H : Hp) : List (Key × V) → List (Int × Int) → Prop
  | nil : PlD K H [] []
  | cons {s v : Int} {t : Addr} {kvs : List (Key × V)} {ps : List (Int × Int)} : SqT K H t [.int v, .int 0] → PlD K H kvs ps → PlD K H ((Sum.inl s, .ref t) :: kvs) ((s, v) :: ps)
theorem PlD.chgs {H H' : Hp} {S : List Addr} (c : ∀ a xs, SqT K H a xs → SqT K H' a xs) : ∀ {kvs : List (Key × V)} {ps : List (Int × Int)}, PlD K H kvs ps → PlD K H' kvs ps
  | _, _, .nil => .nil
  | _, _, .cons h t => .cons (c _ _ h) (t.chgs (S := S) c)
theorem PlD.same {H H' : Hp} {kvs : List (Key × V)} {ps : List (Int × Int)} (h : PlD K H kvs ps) (s : Same H H') : PlD K H' kvs ps := h.chgs (S := []) fun _ _ q => sqt_same s q
theorem PlD.snoc {H : Hp} {s v : Int} {t : Addr} (q : SqT K H t [.int v, .int 0]) : ∀ {kvs : List (Key × V)} {ps : List (Int × Int)}, PlD K H kvs ps → PlD K H (kvs ++ [(Sum.inl s, .ref t)]) (ps ++ [(s, v)])
  | _, _, .nil => .cons q .nil
  | _, _, .cons h r => .cons h (r.snoc q)
theorem PlD.keys {H : Hp} : ∀ {kvs : List (Key × V)} {ps : List (Int × Int)}, PlD K H kvs ps → kvs.map (·.1) = ps.map fun p => Sum.inl p.1
  | _, _, .nil => rfl
  | _, _, .cons _ t => by rw [List.map_cons, List.map_cons, t.keys]
theorem PlD.len {H : Hp} {kvs : List (Key × V)} {ps : List (Int × Int)} (h : PlD K H kvs ps) : kvs.length = ps.length := by
  have := congrArg List.length h.keys
  rwa [List.length_map, List.length_map] at this
theorem PlD.none {H : Hp} {s : Int} : ∀ {kvs : List (Key × V)} {ps : List (Int × Int)}, PlD K H kvs ps → s ∉ ps.map (·.1) → valV kvs (Sum.inl s) = .none
  | _, _, .nil, _ => rfl
  | _, _, .cons _ t, n => by
    rw [List.map_cons, List.mem_cons, not_or] at n
    rw [valV_neg (fun e => n.1 (Sum.inl.inj e).symm)]
    exact t.none n.2
theorem PlD.get {H : Hp} {s : Int} : ∀ {kvs : List (Key × V)} {ps : List (Int × Int)}, PlD K H kvs ps → s ∈ ps.map (·.1) → ∃ t v, valV kvs (Sum.inl s) = some (.ref t) ∧ SqT K H t [.int v, .int 0] ∧ (s, v) ∈ ps
  | _, _, .nil, h => absurd h List.not_mem_nil
  | _, _, .cons (s := s') (v := v') (t := t') q r, h => by
    by_cases c : s' = s
    · subst c
      exact ⟨t', v', valV_pos rfl, q, List.mem_cons_self ..⟩
    · rw [List.map_cons, List.mem_cons] at h
      rcases h with e | h
      · exact absurd e.symm c
      · obtain ⟨t, v, e, q2, m⟩ := r.get h
        exact ⟨t, v, (valV_neg (fun e => c (Sum.inl.inj e))).trans e, q2, List.mem_cons_of_mem _ m⟩
def oweF (ps : List (Int × Int)) (m : Int) : Int := (ps.lookup m).getD 0
theorem PlD.owe {H : Hp} {s : Int} : ∀ {kvs : List (Key × V)} {ps : List (Int × Int)}, PlD K H kvs ps → s ∈ ps.map (·.1) → ∃ t, valV kvs (Sum.inl s) = some (.ref t) ∧ SqT K H t [.int (oweF ps s), .int 0]
  | _, _, .nil, h => absurd h List.not_mem_nil
  | _, _, .cons (s := s') (v := v') (t := t') q r, h => by
    by_cases c : s' = s
    · subst c
      refine ⟨t', valV_pos rfl, ?_⟩
      unfold oweF
      rw [List.lookup_cons_self]
      exact q
    · rw [List.map_cons, List.mem_cons] at h
      rcases h with e | h
      · exact absurd e.symm c
      · obtain ⟨t, e, q2⟩ := r.owe h
        refine ⟨t, (valV_neg (fun e => c (Sum.inl.inj e))).trans e, ?_⟩
        unfold oweF at q2 ⊢
        rw [List.lookup_cons, beq_false_of_ne (fun e => c e.symm)]
        exact q2
theorem keys_is {s : Int} : ∀ {kvs : List (Key × V)} {ps : List (Int × Int)}, kvs.map (·.1) = ps.map (fun p => Sum.inl p.1) → (valV kvs (Sum.inl s)).isSome = decide (s ∈ ps.map (·.1))
  | [], [], _ => rfl
  | [], _ :: _, e => by simp at e
  | _ :: _, [], e => by simp at e
  | (k, v) :: kvs, p :: ps, e => by
    rw [List.map_cons, List.map_cons] at e
    injection e with e1 e2
    have e1 : k = Sum.inl p.1 := e1
    subst e1
    by_cases c : p.1 = s
    · subst c
      rw [valV_pos rfl]
      simp
    · rw [valV_neg (fun e => c (Sum.inl.inj e)), keys_is e2]
      refine decide_eq_decide.mpr ?_
      rw [List.map_cons, List.mem_cons]
      exact ⟨.inr, fun h => h.resolve_left (fun z => c z.symm)⟩
theorem PlD.is {H : Hp} {kvs : List (Key × V)} {ps : List (Int × Int)} (h : PlD K H kvs ps) (s : Int) : (valV kvs (Sum.inl s)).isSome = decide (s ∈ ps.map (·.1)) := by
  by_cases c : s ∈ ps.map (·.1)
  · obtain ⟨t, v, e, _⟩ := h.get c
    rw [e, decide_eq_true c]
    rfl
  · rw [h.none c, decide_eq_false c]
    rfl
/-- whose pledge is awaited -/
def awF (rs : List Int) (ps : List (Int × Int)) : List Int := rs.filter fun s => !decide (s ∈ ps.map (·.1))
def spAw (K : PySem.W.Frag) (C : Addr) : Sp := fun vs H Q _ => ∃ (q dx : Addr) (me : Int) (st : Str) (rnd : Int) (ro nu : Addr) (key bg : V) (pl : Addr) (rs ms : List Int) (kvs : List (Key × V)) (ps : List (Int × Int)), vs = [.ref q] ∧ CalAt H C q dx me st rnd ro nu key bg pl rs ms kvs ∧ kvs.map (·.1) = ps.map (fun p => Sum.inl p.1) ∧ rs.length ≤ 60 ∧
  ((bg = .non ∧ ∀ l, H l = none → Q (.ref l) (upd H l (.lst []))) ∨ ((∃ g, bg = .int g) ∧ ∀ l H', Same H H' → H l = none → H' l = some (.lst ((awF rs ps).map V.int)) → Q (.ref l) H'))
theorem sc_Caller_awaits : FnScope ["self", "seat"] ["self"] (defScope s_Caller_awaits) :=
  ⟨rfl, rfl, rfl, by decide +kernel, rfl, by decide +kernel, by decide +kernel⟩
theorem ok_awaits (F : Fun K "awaits" "Caller.awaits" s_Caller_awaits f fd) (S : CalT K C) : FnOk P w K mg base CX0 1 f fd ["self"] (spAw K C) := by
  refine F.ok sc_Caller_awaits (fun vs H Q E h => ?_) (fun cdv A outer s H vs Q E hr h => ?_)
  · obtain ⟨q, _, _, _, _, _, _, _, _, _, _, _, _, _, rfl, _⟩ := h
    rfl
  obtain ⟨q, dx, me, st, rnd, ro, nu, key, bg, pl, rs, ms, kvs, ps, rfl, A0, PD, l60, h⟩ := h
  refine ⟨_, (pss_cons (ps_if (pt_cmpR op_isN (pe_fld (pv 0) (by rfl)) pe_non (nomark _))
    (pss_one (ps_ret (pe_lst pa_nil)))
    pss_nil)
    (pss_one (ps_ret (pe_lc (own := [("seat", 1)]) (g := gName 1)  (by rfl) sc_Caller_awaits.nd (pi_list (pe_fld (pv 0) (by rfl))) (blkOk_by (N := ["self", "seat"]) (sc := defScope s_Caller_awaits) (by decide +kernel)) (fun _ _ _ _ _ => pg_name (i := 1) sc_Caller_awaits.nd rfl (Or.inl rfl)) (fun _ _ _ _ _ => pts_one (pt_cmp (pc_dnotin (hu_of hr) (pv 1) (pe_fldK K (pv 0))))) (fun _ _ _ _ _ => (pv 1)))))), ?_⟩
  refine ⟨_, rfl, q, C, dx, _, _, rfl, A0.hp, S.cl, S.begun, caF_bgn _ _ _ _ _ _ _ _ _, rfl, _, rfl, ?_⟩
  rcases h with ⟨rfl, h⟩ | ⟨⟨g, rfl⟩, h⟩
  · exact iteT' rfl ⟨Nat.zero_le _, fun l hl => h l hl⟩
  refine iteF' rfl ?_
  refine ⟨_, rfl, q, C, dx, _, _, rfl, A0.hp, S.cl, S.roster, caF_ros _ _ _ _ _ _ _ _ _, ro, rfl, ⟨_, SqL.of A0.hr⟩, fun D hD => ?_⟩
  refine lc_filtI (K := K) (a := ro) (ns := rs) (fun s => !decide (s ∈ ps.map (·.1))) (by omega) hD (SqL.of A0.hr) (fun i x G Y B hx sG h => ?_) (fun G sG kD => h D G sG hD (by unfold awF; exact kD))
  have A1 := A0.same sG
  refine ⟨rfl, _, rfl, _, rfl, q, C, dx, _, _, rfl, A1.hp, S.cl, S.pledges, caF_plg _ _ _ _ _ _ _ _ _, pl, _, rfl, .inl ⟨kvs, Sum.inl x, .inl A1.hpl, rfl, rfl⟩, _, rfl, ?_⟩
  exact tst (by rw [keys_is PD]) (fun y => ⟨_, rfl, y⟩) h
/-! ### a pledge -/
def askN (st : Str) : Int := if st = "asking" then 1 else 0
def plgV (r n a : Int) : List V := [.str "pledge", .int r, .int n, .int a, .int 0]
def spPl (K : PySem.W.Frag) (C : Addr) : Sp := fun vs H Q _ => ∃ (q dx : Addr) (me : Int) (st : Str) (rnd r : Int) (x : V) (ro nu : Addr) (bg : V) (pl : Addr) (rs ms : List Int) (kvs : List (Key × V)), vs = [.ref q, .int r, x] ∧ CalAt H C q dx me st rnd ro nu .non bg pl rs ms kvs ∧ 0 ≤ me ∧ me < ms.length ∧
  ∀ t H', Same H H' → SqT K H' t (plgV r (ms.getD me.toNat 0) (askN st)) → Q (.ref t) H'
theorem sc_Caller_pledge : FnScope ["self", "of_round", "members", "asks", "has"] ["self", "of_round", "members"] (defScope s_Caller_pledge) :=
  ⟨rfl, rfl, rfl, by decide +kernel, rfl, by decide +kernel, by decide +kernel⟩
theorem ok_plg (F : Fun K "_pledge" "Caller._pledge" s_Caller_pledge f fd) (S : CalT K C) : FnOk P w K mg base CX0 1 f fd ["self", "of_round", "members"] (spPl K C) := by
  refine F.ok sc_Caller_pledge (fun vs H Q E h => ?_) (fun cdv A outer s H vs Q E hr h => ?_)
  · obtain ⟨q, _, _, _, _, _, _, _, _, _, _, _, _, _, rfl, _⟩ := h
    rfl
  obtain ⟨q, dx, me, st, rnd, r, x, ro, nu, bg, pl, rs, ms, kvs, rfl, A0, m0, m1, h⟩ := h
  refine ⟨_, (pss_cons (ps_if (PW.pt (pw_and (pt_cmpR op_notN (pe_fld (pv 0) (by rfl)) pe_non (nomark _)) (pw_and1 (pt_cmpR op_lt (pe_fld (pe_fld (pv 0) (by rfl)) (by rfl)) (pv 1) (nomark _)))))
    (pss_one ps_dead)
    pss_nil)
    (pss_cons (ps_set (i := 3) sc_Caller_pledge.nd rfl (Or.inl rfl) (pe_ifExp (pt_cmpR op_eq (pe_fld (pv 0) (by rfl)) pe_str (nomark _)) pe_int pe_int))
    (pss_cons (ps_set (i := 4) sc_Caller_pledge.nd rfl (Or.inl rfl) (pe_ifExp (pt_cmpR op_isN (pe_fld (pv 0) (by rfl)) pe_non (nomark _)) pe_int pe_int))
    (pss_one (ps_ret (pe_tup (pa_cons pe_str (pa_cons (pv 1) (pa_cons (pe_ix ix_list (pe_fld (pv 0) (by rfl)) (pe_fld (pv 0) (by rfl)) (fun _ _ => rfl)) (pa_cons (pv 3) (pa_cons (pv 4) pa_nil))))))))))), ?_⟩
  refine ⟨_, rfl, q, C, dx, _, _, rfl, A0.hp, S.cl, S.key, caF_key _ _ _ _ _ _ _ _ _, rfl, _, rfl, iteF' rfl (iteF' rfl ?_)⟩
  refine ⟨_, rfl, q, C, dx, _, _, rfl, A0.hp, S.cl, S.state, caF_stt _ _ _ _ _ _ _ _ _, rfl, _, rfl, ?_⟩
  rw [dec_str]
  by_cases c : st = "asking"
  · refine iteT' (decide_eq_true c) ?_
    refine ⟨_, rfl, q, C, dx, _, _, rfl, A0.hp, S.cl, S.key, caF_key _ _ _ _ _ _ _ _ _, rfl, _, rfl, iteT' rfl ?_⟩
    refine ⟨_, rfl, _, rfl, q, C, dx, _, _, rfl, A0.hp, S.cl, S.numbers, caF_nms _ _ _ _ _ _ _ _ _, _, rfl, q, C, dx, _, _, rfl, A0.hp, S.cl, S.me, caF_me _ _ _ _ _ _ _ _ _, nu, _, _, _, rfl, rfl, SqL.of A0.hn, at_ms m0 m1, _, rfl, _, rfl, by show 5 ≤ sizeLine; decide, fun t ht => h t _ (same_upd ht) ?_⟩
    unfold plgV askN
    rw [if_pos c]
    exact SqT.of upd_same
  · refine iteF' (decide_eq_false c) ?_
    refine ⟨_, rfl, q, C, dx, _, _, rfl, A0.hp, S.cl, S.key, caF_key _ _ _ _ _ _ _ _ _, rfl, _, rfl, iteT' rfl ?_⟩
    refine ⟨_, rfl, _, rfl, q, C, dx, _, _, rfl, A0.hp, S.cl, S.numbers, caF_nms _ _ _ _ _ _ _ _ _, _, rfl, q, C, dx, _, _, rfl, A0.hp, S.cl, S.me, caF_me _ _ _ _ _ _ _ _ _, nu, _, _, _, rfl, rfl, SqL.of A0.hn, at_ms m0 m1, _, rfl, _, rfl, by show 5 ≤ sizeLine; decide, fun t ht => h t _ (same_upd ht) ?_⟩
    unfold plgV askN
    rw [if_neg c]
    exact SqT.of upd_same
end

end G0
namespace G0
open PySem PySem.Spec PyProof.Rows L2 NdefX ClX
section
variable {P : Program} {w : World} {K : PySem.W.Frag} {mg : Str → Option Value} {base : Heap} {C CK f : Addr} {fd : FuncData}
/-! ### a key is made -/
structure MadeK (K : PySem.W.Frag) (C CK : Addr) (H : Hp) (Q : VK) (A : List Addr) (q dx ro nu pl : Addr) (me rnd g : Int) (st : Str) (bg : V) (rs ms : List Int) (ps : List (Key × V)) (S : List (Int × Int)) (ln : List Int) : Prop where
  none : ln = [] → ∀ z k dk d l H', ChgS A H H' → CalAt H' C q dx me st rnd ro nu (.ref k) bg pl rs ms ps → KeyAt H' CK k dk g d l S [] → H' z = some (.lst []) → Q (.ref z) H'
  self : ∀ rest, ln = me :: rest → ∀ z k dk d l H', ChgS A H H' → CalAt H' C q dx me "in" rnd ro nu (.ref k) bg pl rs ms ps → KeyAt H' CK k dk g d l S rest → H' z = some (.lst []) → Q (.ref z) H'
  give : ∀ t rest, ln = t :: rest → t ≠ me → ∀ z zs S' H', ChgS A H H' → CalAt H' C q dx me st rnd ro nu .non bg pl rs ms ps → S'.Perm S → (S'.map (·.1)).Pairwise (· ≤ ·) → H' z = some (.lst zs) → DpAll K H' zs [toD (keyD g S' rest) t] → Q (.ref z) H'
theorem MadeK.from {H H1 : Hp} {Q : VK} {A A' : List Addr} {q dx ro nu pl : Addr} {me rnd g : Int} {st : Str} {bg : V} {rs ms : List Int} {ps : List (Key × V)} {S : List (Int × Int)} {ln : List Int} (h : MadeK K C CK H Q A q dx ro nu pl me rnd g st bg rs ms ps S ln)
    (go : ∀ H', ChgS A' H1 H' → ChgS A H H') : MadeK K C CK H1 Q A' q dx ro nu pl me rnd g st bg rs ms ps S ln :=
  ⟨fun e z k dk d l H' c => h.none e z k dk d l H' (go _ c), fun rest e z k dk d l H' c => h.self rest e z k dk d l H' (go _ c), fun t rest e n z zs S' H' c => h.give t rest e n z zs S' H' (go _ c)⟩
def spMake (K : PySem.W.Frag) (C CK : Addr) : Sp := fun vs H Q _ => ∃ (q dx ro nu pl : Addr) (me rnd g : Int) (st : Str) (rs ms : List Int) (kvs : List (Key × V)) (ps : List (Int × Int)), vs = [.ref q] ∧ CalAt H C q dx me st rnd ro nu .non (.int g) pl rs ms kvs ∧ PlD K H kvs ps ∧
  rs.Nodup ∧ (∀ m ∈ rs, m ∈ ps.map (·.1)) ∧ (∀ m ∈ rs, 0 ≤ m ∧ m < ms.length) ∧ rs.length ≤ 60 ∧ MadeK K C CK H Q [q] q dx ro nu pl me rnd g st (.int g) rs ms kvs (rs.map fun m => (m, oweF ps m)) (lineUp me rs ms (rs.map fun m => (m, oweF ps m)) [])
theorem sc_Caller_make_key : FnScope ["self", "seat"] ["self"] (defScope s_Caller_make_key) :=
  ⟨rfl, rfl, rfl, by decide +kernel, rfl, by decide +kernel, by decide +kernel⟩
theorem ok_make {fK : Addr} {fdK : FuncData} (F : Fun K "_make_key" "Caller._make_key" s_Caller_make_key f fd) (S : CalT K C) (KT : KeyT K CK) (KKm : Mk K CK fK) (GK : FnOk P w K mg base CX0 1 fK fdK ["self", "of_round", "served", "line"] (spKInit K CK)) (bK : Binds K fdK ["self", "of_round", "served", "line"] []) (gK : mg "Key" = some (.ref CK))
    (MH : Me P w K mg base C "_hand_on" 3 ["self"] (spHandOn K C CK)) : FnOk P w K mg base CX0 4 f fd ["self"] (spMake K C CK) := by
  obtain ⟨fH, fdH, GH, bH, mH⟩ := MH
  refine F.ok sc_Caller_make_key (fun vs H Q E h => ?_) (fun cdv A outer s H vs Q E hr h => ?_)
  · obtain ⟨q, _, _, _, _, _, _, _, _, _, _, _, _, rfl, _⟩ := h
    rfl
  obtain ⟨q, dx, ro, nu, pl, me, rnd, g, st, rs, ms, kvs, ps, rfl, A0, PD, nd, inP, bnd, l60, M⟩ := h
  refine ⟨_, (pss_cons (ps_fld (pv 0) (pe_make KKm GK (hr.mono (by decide)) (by rfl) gK bK .nil pass0 (pa_cons (pe_fld (pv 0) (by rfl)) (pa_cons (pe_lc (own := [("seat", 1)]) (g := gName 1) (tt := tYes) (by rfl) sc_Caller_make_key.nd (pi_list (pe_fld (pv 0) (by rfl))) (blkOk_by (N := ["self", "seat"]) (sc := defScope s_Caller_make_key) (by decide +kernel)) (fun _ _ _ _ _ => pg_name (i := 1) sc_Caller_make_key.nd rfl (Or.inl rfl)) (fun _ _ _ _ _ => pts_nil) (fun _ _ _ _ _ => (pe_tup (pa_cons (pv 1) (pa_cons (pe_ix (ix_tupK K) (pe_dget (hu_of hr) (pe_fldK K (pv 0)) (pv 1) (fun _ _ => rfl)) pe_int (fun _ _ => rfl)) pa_nil))))) (pa_cons (pe_lst pa_nil) pa_nil)))) rfl)
    (pss_one (ps_ret (pe_meth0 (pv 0) S.cl mH GH hr bH .nil pass0)))), ?_⟩
  refine ⟨_, rfl, q, C, dx, _, _, rfl, A0.hp, S.cl, S.begun, caF_bgn _ _ _ _ _ _ _ _ _, ?_⟩
  refine ⟨_, rfl, q, C, dx, _, _, rfl, A0.hp, S.cl, S.roster, caF_ros _ _ _ _ _ _ _ _ _, ro, rfl, ⟨_, SqL.of A0.hr⟩, fun D hD => ?_⟩
  refine lc_dataI (K := K) (a := ro) (ns := rs) (fun _ => true) (fun m => pairD (m, oweF ps m)) (by omega) (fun x _ => by simp [pairD, noL, noLs]) hD (SqL.of A0.hr) (fun i x G Y B hx sG h1 h2 => ?_) (fun G zs sG kD dz => ?_)
  · obtain ⟨t, et, qt⟩ := (PD.same sG).owe (inP x (List.mem_of_getElem? hx))
    have A1 := A0.same sG
    refine ⟨rfl, lc_yes ?_⟩
    refine ⟨_, rfl, _, rfl, q, C, dx, _, _, rfl, A1.hp, S.cl, S.pledges, caF_plg _ _ _ _ _ _ _ _ _, _, rfl, pl, _, rfl, .inl ⟨kvs, Sum.inl x, .inl A1.hpl, rfl, et.symm⟩, t, _, _, _, rfl, rfl, qt, atI_nat (j := 0) rfl, by show 2 ≤ sizeLine; decide, fun t2 ht2 => h1 rfl (.ref t2) _ (same_upd ht2) (.tup (SqT.of upd_same) (.cons (.int x) (.cons (.int _) .nil)))⟩
  rw [show rs.filter (fun _ => true) = rs from List.filter_eq_self.mpr fun _ _ => rfl, show (rs.map fun m => pairD (m, oweF ps m)) = (rs.map fun m => (m, oweF ps m)).map pairD by rw [List.map_map]; rfl] at dz
  refine ⟨Nat.zero_le _, fun e he => ?_⟩
  have se := same_upd (o := .lst []) he
  refine fun y dy hy hdy ne => ?_
  have sy := (same_upd (o := .own y) hdy).trans (same_upd (o := .ins CK dy []) (by rw [upd_ne ne.symm]; exact hy))
  have s3 := se.trans sy
  have eS : (rs.map fun m => (m, oweF ps m)).map (·.1) = rs := by rw [List.map_map]; exact List.map_id rs
  refine ⟨y, dy, D, e, g, zs, _, [], rfl, upd_same, SqL.of (s3 _ _ kD), dps_same s3 _ _ dz, SqL.of (sy _ _ upd_same), by rw [eS]; exact nd, by rw [List.length_map]; exact l60, Nat.zero_le _, fun d l H1 hd hl n1 n2 n3 c1 K1 => ⟨rfl, ?_⟩⟩
  have s1 : Same (upd G e (.lst [])) H1 := fun b o e' => c1 _ _ (ne_of_none e' hy) (sy _ _ e')
  have sH : Same H H1 := sG.trans (se.trans s1)
  have A1 := A0.same sH
  have y0 : H y = none := (sG.trans se).free hy
  have qy : q ≠ y := ne_of_none A0.hp y0
  refine ⟨_, rfl, q, C, dx, _, rfl, A1.hp, S.cl, S.key, (by show 9 < 1000; decide), ?_⟩
  rw [caF_put_key]
  have cq : Chg q H1 (upd H1 q (.ins C dx (caF me st false rnd ro nu (.ref y) (.int g) pl))) := Chg.self
  have A2 : CalAt (upd H1 q (.ins C dx (caF me st false rnd ro nu (.ref y) (.int g) pl))) C q dx me st rnd ro nu (.ref y) (.int g) pl rs ms kvs := ⟨upd_same, cq _ _ (ne_of A1.hr A1.hp (by intro z; cases z)) A1.hr, cq _ _ (ne_of A1.hn A1.hp (by intro z; cases z)) A1.hn, cq _ _ (ne_of A1.hpl A1.hp (by intro z; cases z)) A1.hpl⟩
  have K2 := K1.chg A1.hp qy.symm cq
  have c2 : ChgS [q] H (upd H1 q (.ins C dx (caF me st false rnd ro nu (.ref y) (.int g) pl))) := (Same.s sH).put (by simp)
  have go : ∀ {H' : Hp}, ChgS [q, y] (upd H1 q (.ins C dx (caF me st false rnd ro nu (.ref y) (.int g) pl))) H' → ChgS [q] H H' := fun c b o nb e' => c b o (by
    have : b ≠ y := fun z => by rw [z, y0] at e'; cases e'
    simp only [List.mem_cons, List.not_mem_nil, or_false] at nb ⊢
    rintro (z | z)
    · exact nb z
    · exact this z) (c2 b o nb e')
  exact ⟨_, rfl, q, dx, _, rfl, A2.hp, (A2.no "_hand_on").2, q, dx, y, dy, ro, nu, pl, d, l, me, rnd, g, st, .int g, rs, ms, [], kvs, _, rfl, A2, K2, nd, bnd, l60, Nat.zero_le _, ⟨fun e z l' H' c _ A K kz => M.none e z y dy d l' H' (go c) A K kz, fun rest e z l' H' c _ A K kz => M.self rest e z y dy d l' H' (go c) A K kz, fun t rest e ne z zs S' H' c A p u kz dz => M.give t rest e ne z zs S' H' (go c) A p u kz dz⟩⟩
/-! ### a pledge is heard -/
theorem lc_vals {K : PySem.W.Frag} {d : Addr} {o : Obj} {kvs : List (Key × V)} {g : TG} {tt : TT} {te : TE} {vs : List Nat} {σ : L2.St} {H1 : Hp} {D : Addr} {Qd : Hp → Prop} (Pv : Nat → Hp → Prop) (h0 : Pv 0 (upd H1 D (.lst []))) (hl : ∀ i H, i ≤ kvs.length → Pv i H → H d = some (.frz o (.dK kvs)))
    (hs : ∀ i k x H, kvs[i]? = some (k, x) → Pv i H → g x (wipe σ vs) H fun σ2 H2 => wipe σ2 vs = wipe σ vs ∧ tt σ2 H2 fun b H3 =>
      if b = true then te σ2 H3 fun y H4 => ∃ acc, H4 D = some (.lst acc) ∧ acc.length < sizeLine ∧ Pv (i + 1) (upd H4 D (.lst (acc ++ [y]))) else Pv (i + 1) H3) (hd : ∀ H, Pv kvs.length H → Qd H) :
    ∃ W : Nat → Nat → Hp → Prop, (∃ m, W 0 m (upd H1 D (.lst []))) ∧ ∀ i m H, W i m H →
      ((Itd d o kvs).stop i H ∧ Qd H) ∨ ((Itd d o kvs).go i H ∧ ∃ Nx : Hp → Prop, (∀ H', Nx H' → ∃ m', m' < m ∧ W (i + 1) m' H') ∧ ∀ x H', (Itd d o kvs).yld i H x H' → g x (wipe σ vs) H' fun σ2 H2 => wipe σ2 vs = wipe σ vs ∧ tt σ2 H2 fun b H3 =>
        if b = true then te σ2 H3 fun y H4 => ∃ acc, H4 D = some (.lst acc) ∧ acc.length < sizeLine ∧ Nx (upd H4 D (.lst (acc ++ [y]))) else Nx H3) := by
  refine ⟨fun i m H => m = kvs.length - i ∧ i ≤ kvs.length ∧ Pv i H, ⟨kvs.length, by simp, Nat.zero_le _, h0⟩, ?_⟩
  rintro i m H ⟨rfl, hi, p⟩
  have q := hl i H hi p
  by_cases hlt : i < kvs.length
  · refine .inr ⟨⟨q, hlt⟩, Pv (i + 1), fun H' p' => ⟨kvs.length - (i + 1), by omega, rfl, hlt, p'⟩, fun x H' y => ?_⟩
    obtain ⟨e, k, hk⟩ := y
    subst e
    exact hs i k x _ hk p
  · have e : i = kvs.length := by omega
    subst e
    exact .inl ⟨⟨q, Nat.le_refl _⟩, hd H p⟩
theorem PlD.at_ {H : Hp} : ∀ {kvs : List (Key × V)} {ps : List (Int × Int)}, PlD K H kvs ps → ∀ {i : Nat} {k : Key} {x : V}, kvs[i]? = some (k, x) → ∃ t v, x = .ref t ∧ SqT K H t [.int v, .int 0]
  | _, _, .nil, i, k, x, e => by simp at e
  | _, _, .cons q r, 0, k, x, e => by
    simp at e
    exact ⟨_, _, e.2.symm, q⟩
  | _, _, .cons q r, i + 1, k, x, e => r.at_ (by simpa using e)
structure BlA97 (mg : Str → Option Value) : Prop where
  len : mg "len" = none
  any : mg "any" = none
def spHearPl (K : PySem.W.Frag) (C CK : Addr) : Sp := fun vs H Q _ => ∃ (q dx lt ro nu pl : Addr) (me rnd g s r num a : Int) (st : Str) (rs ms : List Int) (kvs : List (Key × V)) (ps : List (Int × Int)), vs = [.ref q, .int s, .ref lt] ∧ CalAt H C q dx me st rnd ro nu .non (.int g) pl rs ms kvs ∧ PlD K H kvs ps ∧ SqT K H lt [.str "pledge", .int r, .int num, .int a, .int 0] ∧
  ((r ≠ g ∧ ∀ z H', Same H H' → H' z = some (.lst []) → Q (.ref z) H') ∨
    (r = g ∧ 0 ≤ s ∧ s < ms.length ∧ ro ≠ nu ∧ s ∉ ps.map (·.1) ∧ ps.length ≤ 60 ∧ rs.Nodup ∧ (∀ m ∈ rs, 0 ≤ m ∧ m < ms.length) ∧ rs.length ≤ 60 ∧
      ((awF rs (ps ++ [(s, num - a)]) ≠ [] ∧ ∀ z kvs' H', ChgS [nu, pl] H H' → CalAt H' C q dx me st rnd ro nu .non (.int g) pl rs (learn ms s num) kvs' → PlD K H' kvs' (ps ++ [(s, num - a)]) → H' z = some (.lst []) → Q (.ref z) H') ∨
        (awF rs (ps ++ [(s, num - a)]) = [] ∧ ∀ kvs' : List (Key × V), kvs'.map (·.1) = (ps ++ [(s, num - a)]).map (fun p => Sum.inl p.1) → MadeK K C CK H Q [q, nu, pl] q dx ro nu pl me rnd g st (.int g) rs (learn ms s num) kvs' (rs.map fun m => (m, oweF (ps ++ [(s, num - a)]) m)) (lineUp me rs (learn ms s num) (rs.map fun m => (m, oweF (ps ++ [(s, num - a)]) m)) [])))))
theorem sc_Caller_hear_pledge : FnScope ["self", "sender", "pledge", "_", "of_round", "number", "asks", "has", "told"] ["self", "sender", "pledge"] (defScope s_Caller_hear_pledge) :=
  ⟨rfl, rfl, rfl, by decide +kernel, rfl, by decide +kernel, by decide +kernel⟩
theorem ok_hearPl (F : Fun K "_hear_pledge" "Caller._hear_pledge" s_Caller_hear_pledge f fd) (hL : mg "len" = none) (hA : mg "any" = none) (S : CalT K C) (ML : Me P w K mg base C "_learn" 1 ["self", "seat", "number"] (spLearn C)) (MW : Me P w K mg base C "awaits" 1 ["self"] (spAw K C)) (MM : Me P w K mg base C "_make_key" 4 ["self"] (spMake K C CK)) :
    FnOk P w K mg base CX0 5 f fd ["self", "sender", "pledge"] (spHearPl K C CK) := by
  obtain ⟨fL, fdL, GL, bL, mL⟩ := ML
  obtain ⟨fW, fdW, GW, bW, mW⟩ := MW
  obtain ⟨fM, fdM, GM, bM, mM⟩ := MM
  have T : BlA97 mg := ⟨hL, hA⟩
  refine F.ok sc_Caller_hear_pledge (fun vs H Q E h => ?_) (fun cdv A outer s H vs Q E hr h => ?_)
  · obtain ⟨q, _, _, _, _, _, _, _, _, _, _, _, _, _, _, _, _, _, rfl, _⟩ := h
    rfl
  obtain ⟨q, dx, lt, ro, nu, pl, me, rnd, g, s', r, num, a, st, rs, ms, kvs, ps, rfl, A0, PD, hl, h⟩ := h
  have hr1 : Room 1 _ := hr.mono (by decide)
  refine ⟨_, (pss_cons (ps_asg (pv 2) (pg_tup (by rfl) (pgs_cons (pg_name (i := 3) sc_Caller_hear_pledge.nd rfl (Or.inl rfl)) (pgs_cons (pg_name (i := 4) sc_Caller_hear_pledge.nd rfl (Or.inl rfl)) (pgs_cons (pg_name (i := 5) sc_Caller_hear_pledge.nd rfl (Or.inl rfl)) (pgs_cons (pg_name (i := 6) sc_Caller_hear_pledge.nd rfl (Or.inl rfl)) (pgs_cons (pg_name (i := 7) sc_Caller_hear_pledge.nd rfl (Or.inl rfl)) pgs_nil)))))))
    (pss_cons (ps_if (pt_cmpR op_ne (pv 4) (pe_fld (pv 0) (by rfl)) (nomark _))
    (pss_one (ps_ret (pe_lst pa_nil)))
    pss_nil)
    (pss_cons (ps_expr (pe_meth (pv 0) S.cl mL GL hr1 bL .nil pass0 (pa_cons (pv 1) (pa_cons (pv 5) pa_nil))))
    (pss_cons (ps_asg (pe_tup (pa_cons (pe_op op_sub (pv 5) (pv 6)) (pa_cons (pv 7) pa_nil))) (pg_sub (pe_fld (pv 0) (by rfl)) (pv 1) (set_dict (hu_of hr))))
    (pss_cons (ps_if (PW.pt (pw_or (pt_cmpR op_gt (pe_callB call_len_seq (by rfl) T.len (by decide +kernel) (pa_cons (pe_meth0 (pv 0) S.cl mW GW hr1 bW .nil pass0) pa_nil)) pe_int (nomark _)) (pw_or1 (pt_val (pe_callB (cr_any (by rfl)) (by rfl) T.any (by decide +kernel) (pa_cons (pe_lock (pe_lc (own := [("told", 8)]) (g := gName 8) (tt := tYes) (by rfl) sc_Caller_hear_pledge.nd (pi_values (pe_fld (pv 0) (by rfl))) (blkOk_by (N := ["self", "sender", "pledge", "_", "of_round", "number", "asks", "has", "told"]) (sc := defScope s_Caller_hear_pledge) (by decide +kernel)) (fun _ _ _ _ _ => pg_name (i := 8) sc_Caller_hear_pledge.nd rfl (Or.inl rfl)) (fun _ _ _ _ _ => pts_nil) (fun _ _ _ _ _ => (pe_cmpR op_eq (pe_ix (ix_tupK K) (pv 8) pe_int (fun _ _ => rfl)) pe_int (nomark _))))) pa_nil))))))
    (pss_one (ps_ret (pe_lst pa_nil)))
    pss_nil)
    (pss_one (ps_ret (pe_meth0 (pv 0) S.cl mM GM hr bM .nil pass0)))))))), ?_⟩
  refine ⟨_, rfl, lt, _, rfl, hl, rfl, _, _, rfl, _, _, rfl, _, _, rfl, _, _, rfl, _, _, rfl, rfl, ?_⟩
  refine ⟨_, rfl, _, rfl, q, C, dx, _, _, rfl, A0.hp, S.cl, S.begun, caF_bgn _ _ _ _ _ _ _ _ _, rfl, _, rfl, ?_⟩
  rw [dec_ii]
  rcases h with ⟨ne, k⟩ | ⟨rfl, h0, h1, rn, sn, l60p, nd, bnd, l60, k⟩
  · refine iteT' (by rw [decide_eq_false ne]; rfl) ?_
    exact ⟨Nat.zero_le _, fun z hz => k z _ (same_upd hz) upd_same⟩
  refine iteF' (by rw [decide_eq_true rfl]; rfl) ?_
  refine ⟨_, rfl, q, dx, _, rfl, A0.hp, (A0.no "_learn").2, _, rfl, _, rfl, q, dx, ro, nu, pl, me, rnd, s', num, st, .non, .int r, rs, ms, kvs, rfl, A0, h0, h1, ?_⟩
  have nun : pl ≠ nu := ne_of A0.hpl A0.hn (by intro z; cases z)
  have c1 : ChgS [nu, pl] H (upd H nu (.lst ((learn ms s' num).map V.int))) := ChgS.refl.put (by simp)
  have A1 : CalAt (upd H nu (.lst ((learn ms s' num).map V.int))) C q dx me st rnd ro nu .non (.int r) pl rs (learn ms s' num) kvs := ⟨(upd_ne (ne_of A0.hp A0.hn (by intro z; cases z))).trans A0.hp, (upd_ne rn).trans A0.hr, upd_same, (upd_ne nun).trans A0.hpl⟩
  have PD1 : PlD K (upd H nu (.lst ((learn ms s' num).map V.int))) kvs ps := PD.chgs (S := []) fun a xs q => by
    rcases q with (z | ⟨o', z⟩) | z
    · exact .inl (.inl ((upd_ne (ne_of z A0.hn (by intro z; cases z))).trans z))
    · exact .inl (.inr ⟨o', (upd_ne (ne_of z A0.hn (by intro z; cases z))).trans z⟩)
    · exact .inr z
  obtain ⟨H1, e1⟩ : ∃ H1, H1 = upd H nu (.lst ((learn ms s' num).map V.int)) := ⟨_, rfl⟩
  rw [← e1] at c1 A1 PD1
  rw [← e1]
  clear e1
  refine ⟨_, rfl, _, rfl, _, _, rfl, rfl, _, rfl, by show 2 ≤ sizeLine; decide, fun t ht => ?_⟩
  have s2 := same_upd (o := .tup [.int (num - a), .int 0]) ht
  have A2 := A1.same s2
  refine ⟨_, rfl, q, C, dx, _, _, rfl, A2.hp, S.cl, S.pledges, caF_plg _ _ _ _ _ _ _ _ _, _, rfl, pl, _, rfl, .inl ⟨_, Sum.inl s', A2.hpl, rfl, ?_, rfl⟩, ?_⟩
  · rw [PD.len]
    exact Nat.lt_of_le_of_lt l60p (by decide)
  rw [putK_new _ (PD.none sn)]
  obtain ⟨kv2, ekv⟩ : ∃ kv2, kv2 = kvs ++ [(Sum.inl s', V.ref t)] := ⟨_, rfl⟩
  have PD3 : PlD K (upd (upd H1 t (.tup [.int (num - a), .int 0])) pl (.dK kv2)) kv2 (ps ++ [(s', num - a)]) := by
    rw [ekv]
    refine ((PD1.same s2).snoc (SqT.of upd_same)).chgs (S := []) fun a xs q => ?_
    rcases q with (z | ⟨o', z⟩) | z
    · exact .inl (.inl ((upd_ne (ne_of z A2.hpl (by intro z; cases z))).trans z))
    · exact .inl (.inr ⟨o', (upd_ne (ne_of z A2.hpl (by intro z; cases z))).trans z⟩)
    · exact .inr z
  have A3 : CalAt (upd (upd H1 t (.tup [.int (num - a), .int 0])) pl (.dK kv2)) C q dx me st rnd ro nu .non (.int r) pl rs (learn ms s' num) kv2 := ⟨(upd_ne (ne_of A2.hp A2.hpl (by intro z; cases z))).trans A2.hp, (upd_ne (ne_of A2.hr A2.hpl (by intro z; cases z))).trans A2.hr, (upd_ne (ne_of A2.hn A2.hpl (by intro z; cases z))).trans A2.hn, upd_same⟩
  have c3 : ChgS [nu, pl] H (upd (upd H1 t (.tup [.int (num - a), .int 0])) pl (.dK kv2)) := (c1.trans (Same.s s2)).put (by simp)
  rw [← ekv]
  obtain ⟨H3, e3⟩ : ∃ H3, H3 = upd (upd H1 t (.tup [.int (num - a), .int 0])) pl (.dK kv2) := ⟨_, rfl⟩
  rw [← e3] at PD3 A3 c3
  rw [← e3]
  clear e3
  obtain ⟨ps2, ep2⟩ : ∃ ps2, ps2 = ps ++ [(s', num - a)] := ⟨_, rfl⟩
  rw [← ep2] at PD3 k
  refine ⟨_, rfl, q, dx, _, rfl, A3.hp, (A3.no "awaits").2, q, dx, me, st, rnd, ro, nu, .non, .int r, pl, rs, learn ms s' num, kv2, ps2, rfl, A3, PD3.keys, l60, .inr ⟨⟨r, rfl⟩, fun l H4 s4 hl4 kl4 => ?_⟩⟩
  refine ⟨l, _, rfl, .inl (SqL.of kl4), _, _, rfl, rfl, _, rfl, ?_⟩
  have A4 := A3.same s4
  have PD4 := PD3.same s4
  rcases k with ⟨nz, k⟩ | ⟨az, M⟩
  · refine iteT' (by
      rw [List.length_map]
      have := List.length_pos_iff.mpr nz
      simp
      omega) (iteT ?_)
    exact ⟨Nat.zero_le _, fun z hz => k z _ _ ((c3.trans (Same.s s4)).new hz) (A4.same (same_upd hz)) (PD4.same (same_upd hz)) upd_same⟩
  refine iteF' (by rw [az]; rfl) ?_
  refine ⟨pl, _, A4.hpl, trivial, fun od => ?_⟩
  have fz : upd H4 pl (.frz od (.dK kv2)) pl = some (.frz od (.dK kv2)) := upd_same
  have qpl : q ≠ pl := ne_of A4.hp A4.hpl (by intro z; cases z)
  refine ⟨_, rfl, q, C, dx, _, _, rfl, (upd_ne qpl).trans A4.hp, S.cl, S.pledges, caF_plg _ _ _ _ _ _ _ _ _, pl, od, kv2, rfl, fz, fun D hD => ?_⟩
  have PDz : PlD K (upd H4 pl (.frz od (.dK kv2))) kv2 ps2 := PD4.chgs (S := []) fun a xs q => by
    rcases q with (z | ⟨o', z⟩) | z
    · exact .inl (.inl ((upd_ne (ne_of z A4.hpl (by intro z; cases z))).trans z))
    · exact .inl (.inr ⟨o', (upd_ne (ne_of z A4.hpl (by intro z; cases z))).trans z⟩)
    · exact .inr z
  have lk : kv2.length ≤ 61 := by rw [PD4.len, ep2, List.length_append, List.length_singleton]; omega
  refine lc_vals (K := K) (fun i G => Same (upd H4 pl (.frz od (.dK kv2))) G ∧ G D = some (.lst ((List.replicate i false).map V.bl))) ⟨same_upd hD, upd_same⟩ (fun i G _ h => h.1 _ _ fz) ?_ ?_
  · rintro i kk x G hx ⟨sG, kD⟩
    obtain ⟨t2, v2, rfl, q2⟩ := (PDz.same sG).at_ hx
    refine ⟨rfl, lc_yes ?_⟩
    refine ⟨_, rfl, t2, _, _, _, rfl, rfl, q2, atI_nat (j := 1) rfl, rfl, _, kD, ?_, fun a o e => ?_, ?_⟩
    · rw [List.length_map, List.length_replicate]
      have := (List.getElem?_eq_some_iff.mp hx).1
      exact Nat.lt_of_lt_of_le (show i < 100 by omega) (by decide)
    · rw [upd_ne (ne_of_none e hD)]
      exact sG _ _ e
    · rw [show decide (V.int 0 = V.int 1) = false by rw [dec_ii]; rfl, List.replicate_succ', List.map_append]
      exact upd_same
  rintro G ⟨sG, kD⟩
  have Dpl : D ≠ pl := (ne_of_none fz hD).symm
  have s5 : Same H4 (upd G pl (.dK kv2)) := fun b o e => by
    by_cases c : b = pl
    · rw [c] at e ⊢
      rw [upd_same, ← A4.hpl]
      exact e
    · rw [upd_ne c]
      exact sG _ _ ((upd_ne c).trans e)
  have A5 := A4.same s5
  have PD5 := PD4.same s5
  have c5 := c3.trans (Same.s (s4.trans s5))
  refine ⟨sG _ _ fz, D, _, rfl, SqL.of ((upd_ne Dpl).trans kD), ?_⟩
  refine ⟨_, rfl, ?_⟩
  rw [show (List.replicate kv2.length false).any id = false by simp]
  refine iteF' rfl ?_
  refine ⟨_, rfl, q, dx, _, rfl, A5.hp, (A5.no "_make_key").2, q, dx, ro, nu, pl, me, rnd, r, st, rs, learn ms s' num, kv2, ps2, rfl, A5, PD5, nd, fun m hm => ?_, fun m hm => by rw [learn_len]; exact bnd m hm, l60, ?_⟩
  · have := List.filter_eq_nil_iff.mp az m hm
    simpa using this
  · exact (M kv2 PD5.keys).from (A' := [q]) fun H' c => ChgS.trans (c5.mono (T := [q, nu, pl]) (by simp)) (c.mono (by simp))
end

end G0
namespace G0
open PySem PySem.Spec PyProof.Rows L2 NdefX ClX
/-! data without lists stay where tuples do -/
mutual
theorem dp_kt {K : PySem.W.Frag} {H H' : Hp} (c : ∀ a xs, SqT K H a xs → SqT K H' a xs) : ∀ (d : PyData) (v : V), noL d = true → Dp K H v d → Dp K H' v d
  | .none, _, _, h => by cases h; exact .non
  | .bool _, _, _, h => by cases h; exact .bl _
  | .int _, _, _, h => by cases h; exact .int _
  | .str _, _, _, h => by cases h; exact .str _
  | .list _, _, n, _ => by simp [noL] at n
  | .dict _, _, n, _ => by simp [noL] at n
  | .tuple ds, _, n, h => by
    cases h with
    | tup hs ha => exact .tup (c _ _ hs) (dps_kt c ds _ (by simpa [noL] using n) ha)
theorem dps_kt {K : PySem.W.Frag} {H H' : Hp} (c : ∀ a xs, SqT K H a xs → SqT K H' a xs) : ∀ (ds : List PyData) (vs : List V), noLs ds = true → DpAll K H vs ds → DpAll K H' vs ds
  | [], _, _, h => by cases h; exact .nil
  | d :: ds, _, n, h => by
    simp only [noLs, Bool.and_eq_true] at n
    cases h with
    | cons h1 h2 => exact .cons (dp_kt c d _ n.1 h1) (dps_kt c ds _ n.2 h2)
end
theorem sqt_chgs {K : PySem.W.Frag} {S : List Addr} {H H' : Hp} (c : ChgS S H H') (w : ∀ a ∈ S, (∃ xs, H a = some (.lst xs)) ∨ (∃ kvs, H a = some (.dK kvs)) ∨ ∃ C d fs, H a = some (.ins C d fs)) : ∀ a xs, SqT K H a xs → SqT K H' a xs := fun a xs q => by
  have no : ∀ o, H a = some o → (∀ xs, o ≠ .lst xs) → (∀ kvs, o ≠ .dK kvs) → (∀ C d fs, o ≠ .ins C d fs) → a ∉ S := fun o e n1 n2 n3 m => by
    rcases w a m with ⟨xs, z⟩ | ⟨kvs, z⟩ | ⟨C, d, fs, z⟩
    · rw [z] at e; exact n1 _ (Option.some.inj e).symm
    · rw [z] at e; exact n2 _ (Option.some.inj e).symm
    · rw [z] at e; exact n3 _ _ _ (Option.some.inj e).symm
  rcases q with (z | ⟨o', z⟩) | z
  · exact .inl (.inl (c _ _ (no _ z (fun _ e => nomatch e) (fun _ e => nomatch e) (fun _ _ _ e => nomatch e)) z))
  · exact .inl (.inr ⟨o', c _ _ (no _ z (fun _ e => nomatch e) (fun _ e => nomatch e) (fun _ _ _ e => nomatch e)) z⟩)
  · exact .inr z
section
variable {P : Program} {w : World} {K : PySem.W.Frag} {mg : Str → Option Value} {base : Heap} {C CK f : Addr} {fd : FuncData}
/-! ### a round is begun -/
theorem learn_self {ms : List Int} {m : Int} (h0 : 0 ≤ m) (h1 : m < ms.length) : learn ms m (ms.getD m.toNat 0) = ms := by
  unfold learn
  rw [ite_self]
  refine List.ext_getElem? fun i => ?_
  rw [List.getElem?_set]
  split
  · next e =>
    subst e
    split
    · next l => rw [List.getD_eq_getElem?_getD, List.getElem?_eq_getElem l]; rfl
    · next l => rw [List.getElem?_eq_none (by omega)]
  · rfl
theorem MadeK.cat {H : Hp} {Q : VK} {A : List Addr} {q dx ro nu pl : Addr} {me rnd g : Int} {st : Str} {bg : V} {rs ms : List Int} {ps : List (Key × V)} {S : List (Int × Int)} {ln : List Int} {Q' : VK} (h : MadeK K C CK H Q A q dx ro nu pl me rnd g st bg rs ms ps S ln)
    (go : ∀ z zs H', ChgS A H H' → H' z = some (.lst zs) → zs.length ≤ 1 → (∀ r H2, Same H' H2 → H2 r = some (.lst zs) → Q (.ref r) H2) → Q' (.ref z) H') : MadeK K C CK H Q' A q dx ro nu pl me rnd g st bg rs ms ps S ln :=
  ⟨fun e z k dk d l H' c A' K' kz => go z [] H' c kz (by simp) fun r H2 s k2 => h.none e r k dk d l H2 (c.trans (Same.s s)) (A'.same s) (K'.same s) k2,
    fun rest e z k dk d l H' c A' K' kz => go z [] H' c kz (by simp) fun r H2 s k2 => h.self rest e r k dk d l H2 (c.trans (Same.s s)) (A'.same s) (K'.same s) k2,
    fun t rest e n z zs S' H' c A' p u kz dz => go z zs H' c kz (by rw [dps_len dz]; simp) fun r H2 s k2 => h.give t rest e n r zs S' H2 (c.trans (Same.s s)) (A'.same s) p u k2 (dps_same s _ _ dz)⟩
def roundD (n : Int) (rs : List Int) : PyData := .tuple [.str "round", .int n, .tuple (rs.map PyData.int)]
structure BegK (K : PySem.W.Frag) (C CK : Addr) (H : Hp) (Q : VK) (q dx ro nu : Addr) (me rnd : Int) (st : Str) (rs ms : List Int) : Prop where
  wait : awF rs [(me, ms.getD me.toNat 0 - askN st)] ≠ [] → ∀ z zs pl kvs H', ChgS [q, nu] H H' → CalAt H' C q dx me st (rnd + 1) ro nu .non (.int (rnd + 1)) pl rs ms kvs → PlD K H' kvs [(me, ms.getD me.toNat 0 - askN st)] → H' z = some (.lst zs) → DpAll K H' zs ((othR rs me).map (toD (roundD (rnd + 1) rs))) → Q (.ref z) H'
  made : awF rs [(me, ms.getD me.toNat 0 - askN st)] = [] → ∀ (pl : Addr) (kvs : List (Key × V)), kvs.map (·.1) = [Sum.inl me] → MadeK K C CK H Q [q, nu] q dx ro nu pl me (rnd + 1) (rnd + 1) st (.int (rnd + 1)) rs ms kvs (rs.map fun m => (m, oweF [(me, ms.getD me.toNat 0 - askN st)] m)) (lineUp me rs ms (rs.map fun m => (m, oweF [(me, ms.getD me.toNat 0 - askN st)] m)) [])
def spBegin (K : PySem.W.Frag) (C CK : Addr) : Sp := fun vs H Q _ => ∃ (q dx ro nu pl : Addr) (me rnd : Int) (st : Str) (bg : V) (rs ms : List Int) (kvs : List (Key × V)), vs = [.ref q] ∧ CalAt H C q dx me st rnd ro nu .non bg pl rs ms kvs ∧ 0 ≤ me ∧ me < ms.length ∧ ro ≠ nu ∧ rs.Nodup ∧ (∀ m ∈ rs, 0 ≤ m ∧ m < ms.length) ∧ rs.length ≤ 60 ∧
  BegK K C CK H Q q dx ro nu me rnd st rs ms
theorem sc_Caller_begin : FnScope ["self", "members", "sends"] ["self"] (defScope s_Caller_begin) :=
  ⟨rfl, rfl, rfl, by decide +kernel, rfl, by decide +kernel, by decide +kernel⟩
theorem ok_begin (F : Fun K "_begin" "Caller._begin" s_Caller_begin f fd) (T : BlC71 mg) (S : CalT K C) (MO : Me P w K mg base C "_to_others" 1 ["self", "letter"] (spToO K C)) (MP : Me P w K mg base C "_pledge" 1 ["self", "of_round", "members"] (spPl K C)) (MH : Me P w K mg base C "_hear_pledge" 5 ["self", "sender", "pledge"] (spHearPl K C CK)) :
    FnOk P w K mg base CX0 6 f fd ["self"] (spBegin K C CK) := by
  obtain ⟨fO, fdO, GO, bO, mO⟩ := MO
  obtain ⟨fP, fdP, GP, bP, mP⟩ := MP
  obtain ⟨fH, fdH, GH, bH, mH⟩ := MH
  refine F.ok sc_Caller_begin (fun vs H Q E h => ?_) (fun cdv A outer s H vs Q E hr h => ?_)
  · obtain ⟨q, _, _, _, _, _, _, _, _, _, _, _, rfl, _⟩ := h
    rfl
  obtain ⟨q, dx, ro, nu, pl, me, rnd, st, bg, rs, ms, kvs, rfl, A0, m0, m1, rn, nd, bnd, l60, BK⟩ := h
  have hr1 : Room 1 _ := hr.mono (by decide)
  refine ⟨_, (pss_cons (ps_fldaug (pv 0) pe_int in_add)
    (pss_cons (ps_fld (pv 0) (pe_fld (pv 0) (by rfl)) rfl)
    (pss_cons (ps_fld (pv 0) pe_dnewK rfl)
    (pss_cons (ps_set (i := 1) sc_Caller_begin.nd rfl (Or.inl rfl) (pe_callTy call_tuple_of (by rfl) T.tuple (by decide +kernel) (pa_cons (pe_fld (pv 0) (by rfl)) pa_nil)))
    (pss_cons (ps_set (i := 2) sc_Caller_begin.nd rfl (Or.inl rfl) (pe_meth (pv 0) S.cl mO GO hr1 bO .nil pass0 (pa_cons (pe_tup (pa_cons pe_str (pa_cons (pe_fld (pv 0) (by rfl)) (pa_cons (pv 1) pa_nil)))) pa_nil)))
    (pss_one (ps_ret (pe_op op_cat (pv 2) (pe_meth (pv 0) S.cl mH GH hr bH .nil pass0 (pa_cons (pe_fld (pv 0) (by rfl)) (pa_cons (pe_meth (pv 0) S.cl mP GP hr1 bP .nil pass0 (pa_cons (pe_fld (pv 0) (by rfl)) (pa_cons (pv 1) pa_nil))) pa_nil))))))))))), ?_⟩
  refine ⟨_, rfl, q, C, dx, _, _, rfl, A0.hp, S.cl, S.round, caF_rnd _ _ _ _ _ _ _ _ _, ?_⟩
  refine ⟨_, _, rfl, rfl, ?_⟩
  refine ⟨dx, _, A0.hp, (by show 9 < 1000; decide), ?_⟩
  rw [caF_put_rnd]
  have cq1 : Chg q H (upd H q (.ins C dx (caF me st false (rnd + 1) ro nu .non bg pl))) := Chg.self
  refine ⟨_, rfl, q, C, dx, _, _, rfl, upd_same, S.cl, S.round, caF_rnd _ _ _ _ _ _ _ _ _, _, rfl, q, C, dx, _, rfl, upd_same, S.cl, S.begun, (by show 9 < 1000; decide), ?_⟩
  rw [upd_upd, caF_put_bgn]
  obtain ⟨H1, e1⟩ : ∃ H1, H1 = upd H q (.ins C dx (caF me st false (rnd + 1) ro nu .non (.int (rnd + 1)) pl)) := ⟨_, rfl⟩
  have k1 : H1 q = some (.ins C dx (caF me st false (rnd + 1) ro nu .non (.int (rnd + 1)) pl)) := by rw [e1]; exact upd_same
  have c1 : Chg q H H1 := by rw [e1]; exact Chg.self
  rw [← e1]
  clear e1 cq1
  refine fun p2 hp2 => ?_
  have qp : q ≠ p2 := ne_of_none k1 hp2
  refine ⟨_, rfl, q, C, dx, _, rfl, (upd_ne qp).trans k1, S.cl, S.pledges, (by show 9 < 1000; decide), ?_⟩
  rw [caF_put_plg]
  have s2 := same_upd (o := .dK []) hp2
  have c2 : Chg q H1 (upd (upd H1 p2 (.dK [])) q (.ins C dx (caF me st false (rnd + 1) ro nu .non (.int (rnd + 1)) p2))) := (Chg.same s2).trans Chg.self
  have A2 : CalAt (upd (upd H1 p2 (.dK [])) q (.ins C dx (caF me st false (rnd + 1) ro nu .non (.int (rnd + 1)) p2))) C q dx me st (rnd + 1) ro nu .non (.int (rnd + 1)) p2 rs ms [] := ⟨upd_same, (c1.trans c2) _ _ (ne_of A0.hr A0.hp (by intro z; cases z)) A0.hr, (c1.trans c2) _ _ (ne_of A0.hn A0.hp (by intro z; cases z)) A0.hn, (upd_ne qp.symm).trans upd_same⟩
  have c3 := c1.trans c2
  have p20 : H p2 = none := by
    cases z : H p2 with
    | none => rfl
    | some o => rw [c1 _ _ qp.symm z] at hp2; cases hp2
  obtain ⟨H2, e2⟩ : ∃ H2, H2 = upd (upd H1 p2 (.dK [])) q (.ins C dx (caF me st false (rnd + 1) ro nu .non (.int (rnd + 1)) p2)) := ⟨_, rfl⟩
  rw [← e2] at c3 A2
  rw [← e2]
  clear e2 c2 s2
  refine ⟨_, rfl, q, C, dx, _, _, rfl, A2.hp, S.cl, S.roster, caF_ros _ _ _ _ _ _ _ _ _, ro, _, rfl, .inl ⟨SqL.of A2.hr, fun tm htm => ?_⟩⟩
  have s3 := same_upd (o := .tup (rs.map V.int)) htm
  have A3 := A2.same s3
  refine ⟨_, rfl, q, dx, _, rfl, A3.hp, (A3.no "_to_others").2, _, rfl, q, C, dx, _, _, rfl, A3.hp, S.cl, S.round, caF_rnd _ _ _ _ _ _ _ _ _, _, rfl, by show 3 ≤ sizeLine; decide, fun t ht => ?_⟩
  have s4 := same_upd (o := .tup [.str "round", .int (rnd + 1), .ref tm]) ht
  have A4 := A3.same s4
  have d4 : Dp K (upd (upd H2 tm (.tup (rs.map V.int))) t (.tup [.str "round", .int (rnd + 1), .ref tm])) (.ref t) (roundD (rnd + 1) rs) := .tup (SqT.of upd_same) (.cons (.str _) (.cons (.int _) (.cons (.tup (SqT.of (s4 _ _ upd_same)) (dps_ints rs)) .nil)))
  refine ⟨q, dx, t, ro, nu, p2, me, rnd + 1, st, .non, .int (rnd + 1), rs, ms, [], roundD (rnd + 1) rs, rfl, A4, d4, by simp [roundD, noL, noLs, noLs_intsD], l60, fun sl zs H5 s5 ksl dsl => ?_⟩
  have A5 := A4.same s5
  refine ⟨_, rfl, _, rfl, q, dx, _, rfl, A5.hp, (A5.no "_hear_pledge").2, _, rfl, q, C, dx, _, _, rfl, A5.hp, S.cl, S.me, caF_me _ _ _ _ _ _ _ _ _, _, rfl, q, dx, _, rfl, A5.hp, (A5.no "_pledge").2, _, rfl, q, C, dx, _, _, rfl, A5.hp, S.cl, S.round, caF_rnd _ _ _ _ _ _ _ _ _, _, rfl, q, dx, me, st, rnd + 1, rnd + 1, .ref tm, ro, nu, .int (rnd + 1), p2, rs, ms, [], rfl, A5, m0, m1, fun pt H6 s6 kpt => ?_⟩
  have A6 := A5.same s6
  have sA : Same H2 H6 := ((s3.trans s4).trans s5).trans s6
  have cs : ChgS [q, nu] H H6 := (Chg.s (c3.trans (Chg.same sA)) (by simp))
  have n60 : sizeLine ≥ 1000 := by decide
  have lz : zs.length ≤ 60 := by
    have := dps_len dsl
    rw [List.length_map] at this
    have l2 := List.length_filter_le (fun s => !decide (s = me)) rs
    unfold othR at this
    omega
  have p6 : ∀ {b : Addr} {o : HO}, H b = some o → b ≠ p2 := fun e z => by rw [z, p20] at e; cases e
  have go : ∀ {A : List Addr} {H' : Hp}, ChgS A H6 H' → (∀ a ∈ A, a = q ∨ a = nu ∨ a = p2) → ChgS [q, nu] H H' := fun c sub b o nb e => c b o (fun m => by
    rcases sub b m with z | z | z
    · exact nb (by simp [z])
    · exact nb (by simp [z])
    · exact p6 e z) (cs b o nb e)
  refine ⟨q, dx, pt, ro, nu, p2, me, rnd + 1, rnd + 1, me, rnd + 1, ms.getD me.toNat 0, askN st, st, rs, ms, [], [], rfl, A6, .nil, kpt, .inr ⟨rfl, m0, m1, rn, by simp, Nat.zero_le _, nd, bnd, l60, ?_⟩⟩
  rw [learn_self m0 m1, List.nil_append]
  have ksl6 := s6 _ _ ksl
  have dsl6 := dps_same s6 _ _ dsl
  have nls : noLs ((othR rs me).map (toD (roundD (rnd + 1) rs))) = true := noLs_of fun d hd => by
    obtain ⟨y, _, rfl⟩ := List.mem_map.mp hd
    exact noL_to (by simp [roundD, noL, noLs, noLs_intsD]) y
  have slnu : sl ≠ nu := fun e => by
    have h1 := A5.hn
    rw [← e, ksl] at h1
    have h2 := Option.some.inj h1
    injection h2 with h3
    rw [h3] at dsl
    cases ems : ms with
    | nil => rw [ems] at m1; simp at m1; omega
    | cons x xs =>
      rw [ems, List.map_cons] at dsl
      cases eo : (othR rs me) with
      | nil => rw [eo] at dsl; cases dsl
      | cons y ys =>
        rw [eo, List.map_cons] at dsl
        cases dsl with
        | cons d1 _ => cases d1
  have slq : sl ≠ q := ne_of ksl6 A6.hp (by intro z; cases z)
  have slp : sl ≠ p2 := ne_of ksl6 A6.hpl (by intro z; cases z)
  by_cases az : awF rs [(me, ms.getD me.toNat 0 - askN st)] = []
  · refine .inr ⟨az, fun kv2 hk => ?_⟩
    refine ((BK.made az p2 kv2 hk).from (A' := [q, nu, p2]) fun H' c => go c (by simp)).cat fun z zs2 H' c kz lz2 h => ?_
    have o0 : othR rs me = [] := by
      refine List.filter_eq_nil_iff.mpr fun m hm => ?_
      have := List.filter_eq_nil_iff.mp az m hm
      simpa using this
    have z0 : zs = [] := by
      rw [o0] at dsl
      cases dsl
      rfl
    have k7 := c sl _ (by simp [slnu, slq, slp]) ksl6
    rw [z0] at k7
    exact ⟨sl, z, _, _, rfl, rfl, k7, kz, Nat.le_trans (show 0 + zs2.length ≤ 1000 by omega) (by decide), fun r hr => h r _ (same_upd hr) upd_same⟩
  · refine .inl ⟨az, fun z kv2 H' c A7 PD7 kz => ?_⟩
    have k7 := c sl _ (by simp [slnu, slp]) ksl6
    refine ⟨sl, z, _, _, rfl, rfl, k7, kz, Nat.le_trans (show zs.length + 0 ≤ 1000 by omega) (by decide), fun r hr => ?_⟩
    rw [List.append_nil]
    have s8 := same_upd (o := .lst zs) hr
    refine BK.wait az r zs p2 kv2 _ ((go c (by simp)).trans (Same.s s8)) (A7.same s8) (PD7.same s8) upd_same (dps_same s8 _ _ ?_)
    refine dps_kt (sqt_chgs c fun a ha => ?_) _ _ nls dsl6
    simp only [List.mem_cons, List.not_mem_nil, or_false] at ha
    rcases ha with rfl | rfl
    · exact .inl ⟨_, A6.hn⟩
    · exact .inr (.inl ⟨_, A6.hpl⟩)
/-! ### one is gone -/
def spGone (K : PySem.W.Frag) (C CK : Addr) : Sp := fun vs H Q _ => ∃ (q dx ro nu pl : Addr) (me rnd x : Int) (st : Str) (bg : V) (rs ms : List Int) (kvs : List (Key × V)) (ps : List (Int × Int)) (y : Int) (ys : List Int), vs = [.ref q, .int x] ∧ CalAt H C q dx me st rnd ro nu .non bg pl rs ms kvs ∧ PlD K H kvs ps ∧ 0 ≤ me ∧ me < ms.length ∧ rs.Nodup ∧ (∀ m ∈ rs, 0 ≤ m ∧ m < ms.length) ∧ rs.length ≤ 60 ∧
  othR rs x = y :: ys ∧ (y ≠ me → ∀ z ro' H', H ro' = none → ChgS [q] H H' → CalAt H' C q dx me st rnd ro' nu .non bg pl (othR rs x) ms kvs → PlD K H' kvs ps → H' z = some (.lst []) → Q (.ref z) H') ∧
  (y = me → ∀ ro' H1, H ro' = none → ChgS [q] H H1 → BegK K C CK H1 Q q dx ro' nu me rnd st (othR rs x) ms)
theorem sc_Caller_gone : FnScope ["self", "seat", "other"] ["self", "seat"] (defScope s_Caller_gone) :=
  ⟨rfl, rfl, rfl, by decide +kernel, rfl, by decide +kernel, by decide +kernel⟩
theorem ok_goneC (F : Fun K "gone" "Caller.gone" s_Caller_gone f fd) (S : CalT K C) (MB : Me P w K mg base C "_begin" 6 ["self"] (spBegin K C CK)) : FnOk P w K mg base CX0 7 f fd ["self", "seat"] (spGone K C CK) := by
  obtain ⟨fB, fdB, GB, bB, mB⟩ := MB
  refine F.ok sc_Caller_gone (fun vs H Q E h => ?_) (fun cdv A outer s H vs Q E hr h => ?_)
  · obtain ⟨q, _, _, _, _, _, _, _, _, _, _, _, _, _, _, _, rfl, _⟩ := h
    rfl
  obtain ⟨q, dx, ro, nu, pl, me, rnd, x, st, bg, rs, ms, kvs, ps, y, ys, rfl, A0, PD, m0, m1, nd, bnd, l60, ey, h1, h2⟩ := h
  refine ⟨_, (pss_cons (ps_fld (pv 0) (pe_lc (own := [("other", 2)]) (g := gName 2)  (by rfl) sc_Caller_gone.nd (pi_list (pe_fld (pv 0) (by rfl))) (blkOk_by (N := ["self", "seat", "other"]) (sc := defScope s_Caller_gone) (by decide +kernel)) (fun _ _ _ _ _ => pg_name (i := 2) sc_Caller_gone.nd rfl (Or.inl rfl)) (fun _ _ _ _ _ => pts_one (pt_cmpR op_ne (pv 2) (pv 1) (nomark _))) (fun _ _ _ _ _ => (pv 2))) rfl)
    (pss_cons (ps_if (pt_cmpR op_ne (pe_ix ix_list (pe_fld (pv 0) (by rfl)) pe_int (fun _ _ => rfl)) (pe_fld (pv 0) (by rfl)) (nomark _))
    (pss_one (ps_ret (pe_lst pa_nil)))
    pss_nil)
    (pss_one (ps_ret (pe_meth0 (pv 0) S.cl mB GB hr bB .nil pass0))))), ?_⟩
  refine ⟨_, rfl, q, C, dx, _, _, rfl, A0.hp, S.cl, S.roster, caF_ros _ _ _ _ _ _ _ _ _, ro, rfl, ⟨_, SqL.of A0.hr⟩, fun D hD => ?_⟩
  refine lc_filtI (K := K) (a := ro) (ns := rs) (fun s => !decide (s = x)) (by omega) hD (SqL.of A0.hr) (fun i z G Y B hx sG h => ?_) (fun G sG kD => ?_)
  · refine ⟨rfl, _, rfl, _, rfl, rfl, _, rfl, ?_⟩
    exact tst (by rw [dec_ii]) (fun y => ⟨_, rfl, y⟩) h
  have kD : G D = some (.lst ((othR rs x).map V.int)) := kD
  have A1 := A0.same sG
  have PD1 := PD.same sG
  have Dq : D ≠ q := (ne_of_none A0.hp hD).symm
  have Dn : D ≠ nu := (ne_of_none A0.hn hD).symm
  refine ⟨_, rfl, q, C, dx, _, rfl, A1.hp, S.cl, S.roster, (by show 9 < 1000; decide), ?_⟩
  rw [caF_put_ros]
  have cq : Chg q G (upd G q (.ins C dx (caF me st false rnd D nu .non bg pl))) := Chg.self
  have A2 : CalAt (upd G q (.ins C dx (caF me st false rnd D nu .non bg pl))) C q dx me st rnd D nu .non bg pl (othR rs x) ms kvs := ⟨upd_same, (upd_ne Dq).trans kD, cq _ _ (ne_of A1.hn A1.hp (by intro z; cases z)) A1.hn, cq _ _ (ne_of A1.hpl A1.hp (by intro z; cases z)) A1.hpl⟩
  have c2 : ChgS [q] H (upd G q (.ins C dx (caF me st false rnd D nu .non bg pl))) := (Same.s sG).put (by simp)
  have PD2 : PlD K (upd G q (.ins C dx (caF me st false rnd D nu .non bg pl))) kvs ps := PD1.chgs (S := []) (sqt_chgs (S := [q]) (Chg.s cq (by simp)) fun a ha => by
    rw [List.mem_singleton.mp ha]
    exact .inr (.inr ⟨_, _, _, A1.hp⟩))
  obtain ⟨H2, e2⟩ : ∃ H2, H2 = upd G q (.ins C dx (caF me st false rnd D nu .non bg pl)) := ⟨_, rfl⟩
  rw [← e2] at A2 c2 PD2
  rw [← e2]
  clear e2 cq
  have kD2 := A2.hr
  rw [ey] at kD2
  refine ⟨_, rfl, q, C, dx, _, _, rfl, A2.hp, S.cl, S.roster, caF_ros _ _ _ _ _ _ _ _ _, D, _, _, .int y, rfl, rfl, SqL.of kD2, atI_nat (j := 0) rfl, _, rfl, q, C, dx, _, _, rfl, A2.hp, S.cl, S.me, caF_me _ _ _ _ _ _ _ _ _, rfl, _, rfl, ?_⟩
  rw [dec_ii]
  by_cases e : y = me
  · refine iteF' (by rw [decide_eq_true e]; rfl) ?_
    exact ⟨_, rfl, q, dx, _, rfl, A2.hp, (A2.no "_begin").2, q, dx, D, nu, pl, me, rnd, st, bg, othR rs x, ms, kvs, rfl, A2, m0, m1, Dn, nd.filter _, fun m hm => bnd m (List.mem_filter.mp hm).1, Nat.le_trans (List.length_filter_le _ _) l60, h2 e D _ hD c2⟩
  · refine iteT' (by rw [decide_eq_false e]; rfl) ?_
    exact ⟨Nat.zero_le _, fun z hz => h1 e z D _ hD (c2.new hz) (A2.same (same_upd hz)) (PD2.same (same_upd hz)) upd_same⟩
end

end G0
namespace G0
open PySem PySem.Spec PyProof.Rows L2 NdefX ClX
section
variable {P : Program} {w : World} {K : PySem.W.Frag} {mg : Str → Option Value} {base : Heap} {C CK : Addr}
def spCell (K : PySem.W.Frag) : Sp := fun vs H Q _ => ∃ (a : Addr) (ns : List Int) (k : Int), vs = [.ref a, .int k] ∧ SqL K H a (ns.map V.int) ∧ 0 ≤ k ∧ (∀ z ∈ ns, Builtin.Int.intBits z ≤ 1048576) ∧ ∀ c : Int, Builtin.Int.intBits c ≤ 1048576 → Q (.int c) H
theorem sc_law_cell_at : FnScope ["script", "k"] ["script", "k"] (defScope s_law_cell_at) :=
  ⟨rfl, rfl, rfl, by decide +kernel, rfl, by decide +kernel, by decide +kernel⟩
theorem ok_cell (F : Fn K mg "_law_cell_at" s_law_cell_at) (T : BlL72 mg) : Cal P w K mg base "_law_cell_at" 1 ["script", "k"] (spCell K) := by
  refine cal_of F sc_law_cell_at
    (fun _ _ _ _ _ _ us hl => match us, hl with | [_, _], _ => rfl) ?_ ?_
  · rintro vs H Q E ⟨a, ns, k, rfl, _⟩
    rfl
  rintro f cdv A outer s H vs Q E free hr ⟨a, ns, k, rfl, hS, k0, bits, q⟩
  refine ⟨_, (pss_cons (ps_if (pt_cmpR op_lt (pv 1) (pe_callB call_len_seq (by rfl) T.len (by decide +kernel) (pa_cons (pv 0) pa_nil)) (nomark _))
    (pss_one (ps_ret (pe_ix ix_list (pv 0) (pv 1) (fun _ _ => rfl))))
    pss_nil)
    (pss_one (ps_ret pe_int))), ?_⟩
  refine ⟨_, rfl, _, rfl, a, _, rfl, .inl hS, _, _, rfl, rfl, _, rfl, ?_⟩
  refine ite2 (fun c => ?_) (fun c => ?_)
  · have c' : k < (((ns.map V.int).length : Nat) : Int) := of_decide_eq_true c
    rw [List.length_map] at c'
    have hk : k.toNat < ns.length := by omega
    have at_ : atI (ns.map V.int) k = some (.int ns[k.toNat]) := by
      have := atI_nat (xs := ns.map V.int) (j := k.toNat) (v := .int ns[k.toNat]) (by rw [List.getElem?_map, List.getElem?_eq_getElem hk]; rfl)
      rwa [show ((k.toNat : Nat) : Int) = k by omega] at this
    exact ⟨_, rfl, _, rfl, a, _, _, _, rfl, rfl, hS, at_, q _ (bits _ (List.getElem_mem hk))⟩
  · exact q _ (by decide)
def bitB (bits x : Int) : Bool := decide (Builtin.bitAnd (bits / 2 ^ x.toNat) 1 = 1)
structure MkC (P : Program) (w : World) (K : PySem.W.Frag) (mg : Str → Option Value) (base : Heap) (C CK : Addr) : Prop where
  made : ∃ f fd ds, FnOk P w K mg base CX0 3 f fd ["self", "me", "seats", "first"] (spCInit K C CK) ∧ Vals [.int 0] ds ∧ Binds K fd ["self", "me", "seats", "first"] ds ∧
    KBn K fd ["self", "me", "seats", "first"] 3 ["first"] (fun us ws => us ++ ws) (fun vs zs => vs ++ zs) ∧ Mk K C f
  mg : mg "Caller" = some (.ref C)
/-! ### the bits of a cell -/
def spBits : Sp := fun vs H Q _ => ∃ c : Int, vs = [.int c] ∧ ∀ b : Int, Q (.int b) H
theorem sc_law_bits : FnScope ["cell", "number", "other"] ["cell"] (defScope s_law_bits) :=
  ⟨rfl, rfl, rfl, by decide +kernel, rfl, by decide +kernel, by decide +kernel⟩
theorem ok_bits (F : Fn K mg "_law_bits" s_law_bits) : Cal P w K mg base "_law_bits" 1 ["cell"] spBits := by
  refine cal_of F sc_law_bits
    (fun _ _ _ _ _ _ us hl => match us, hl with | [_], _ => rfl) ?_ ?_
  · rintro vs H Q E ⟨_, rfl, _⟩
    rfl
  rintro f cdv A outer s H vs Q E free hr ⟨c, rfl, q⟩
  refine ⟨_, (pss_cons (ps_if (pt_cmpR op_ge (pv 0) (pe_op op_pow pe_int pe_int) (nomark _))
    (pss_one (ps_ret (pe_op op_mod (pv 0) (pe_op op_pow pe_int pe_int))))
    pss_nil)
    (pss_cons (ps_set (i := 1) sc_law_bits.nd rfl (Or.inl rfl) (pe_op op_mod (pe_op op_add (pe_op op_mul (pe_op op_mod (pv 0) pe_int) pe_int) pe_int) pe_int))
    (pss_cons (ps_set (i := 1) sc_law_bits.nd rfl (Or.inl rfl) (pe_op op_mod (pe_op op_mul (pv 1) (pv 1)) pe_int))
    (pss_cons (ps_set (i := 2) sc_law_bits.nd rfl (Or.inl rfl) (pe_op op_mod (pe_op op_add (pe_op op_mul (pv 1) pe_int) pe_int) pe_int))
    (pss_cons (ps_set (i := 2) sc_law_bits.nd rfl (Or.inl rfl) (pe_op op_mod (pe_op op_mul (pv 2) (pv 2)) pe_int))
    (pss_one (ps_ret (pe_op op_add (pe_op op_mul (pe_op op_fdivW (pv 1) pe_int) (pe_op op_pow pe_int pe_int)) (pe_op op_fdivW (pv 2) pe_int))))))))), ?_⟩
  refine ⟨_, rfl, _, _, rfl, rfl, ⟨by decide, by decide, by decide⟩, _, _, rfl, rfl, _, rfl, ?_⟩
  refine ite2 (fun _ => ?_) (fun _ => ?_)
  · exact ⟨_, rfl, _, _, rfl, rfl, ⟨by decide, by decide, by decide⟩, _, _, rfl, rfl, (by show (0 : Int) < 2 ^ 60; decide), q _⟩
  refine ⟨_, rfl, _, _, rfl, rfl, (by show (0 : Int) < 2147483647; decide), _, _, rfl, rfl, .inr ⟨by decide, by decide⟩, _, _, rfl, rfl, _, _, rfl, rfl, (by show (0 : Int) < 2147483647; decide), ?_⟩
  generalize h1 : (c % 2147483647 * 48271 + 11) % 2147483647 = x
  have x0 : 0 ≤ x := by rw [← h1]; exact Int.emod_nonneg _ (by decide)
  have x1 : x < 2147483647 := by rw [← h1]; exact Int.emod_lt_of_pos _ (by decide)
  refine ⟨_, rfl, _, rfl, _, _, rfl, rfl, .inl ⟨by omega, by omega⟩, _, _, rfl, rfl, (by show (0 : Int) < 2147483629; decide), ?_⟩
  generalize h2 : x * x % 2147483629 = y
  have y0 : 0 ≤ y := by rw [← h2]; exact Int.emod_nonneg _ (by decide)
  have y1 : y < 2147483629 := by rw [← h2]; exact Int.emod_lt_of_pos _ (by decide)
  refine ⟨_, rfl, _, _, rfl, rfl, .inr ⟨by decide, by decide⟩, _, _, rfl, rfl, _, _, rfl, rfl, (by show (0 : Int) < 2147483579; decide), ?_⟩
  generalize h3 : (y * 69621 + 40692) % 2147483579 = z
  have z0 : 0 ≤ z := by rw [← h3]; exact Int.emod_nonneg _ (by decide)
  have z1 : z < 2147483579 := by rw [← h3]; exact Int.emod_lt_of_pos _ (by decide)
  refine ⟨_, rfl, _, rfl, _, _, rfl, rfl, .inl ⟨by omega, by omega⟩, _, _, rfl, rfl, (by show (0 : Int) < 2147483563; decide), ?_⟩
  refine ⟨_, rfl, _, _, rfl, rfl, ⟨by decide, by decide⟩, _, _, rfl, rfl, ⟨by decide, by decide, by decide⟩, _, _, rfl, rfl, .inr ⟨by decide, by decide⟩, _, rfl, _, _, rfl, rfl, ⟨by decide, by decide⟩, _, _, rfl, rfl, q _⟩
/-! ### hear: asks and pledges -/
def spHear97 (K : PySem.W.Frag) (C CK : Addr) : Sp := fun vs H Q E => ∃ (q dx lt : Addr) (s : Int) (fs : List (Str × V)), vs = [.ref q, .int s, .ref lt] ∧ H q = some (.ins C dx fs) ∧ fs.lookup ("_hear_ask" : Str) = none ∧ fs.lookup ("_hear_pledge" : Str) = none ∧
  ((∃ v, SqT K H lt [.str "ask", .int v] ∧ spHearAsk K C CK [.ref q, .int s, .int v] H Q E0) ∨ (∃ xs, SqT K H lt (.str "pledge" :: xs) ∧ spHearPl K C CK [.ref q, .int s, .ref lt] H Q E0))
theorem sc_Caller_hear : FnScope ["self", "sender", "letter", "word"] ["self", "sender", "letter"] (defScope s_Caller_hear) :=
  ⟨rfl, rfl, rfl, by decide +kernel, rfl, by decide +kernel, by decide +kernel⟩
theorem ok_hear97 {f : Addr} {fd : FuncData} (F : Fun K "hear" "Caller.hear" s_Caller_hear f fd) (S : CalT K C) (MA : Me P w K mg base C "_hear_ask" 4 ["self", "sender", "number"] (spHearAsk K C CK)) (MP : Me P w K mg base C "_hear_pledge" 5 ["self", "sender", "pledge"] (spHearPl K C CK)) :
    FnOk P w K mg base CX0 6 f fd ["self", "sender", "letter"] (spHear97 K C CK) := by
  obtain ⟨fA, fdA, GA, bA, mA⟩ := MA
  obtain ⟨fK, fdK, GK, bK, mK⟩ := MP
  refine F.ok sc_Caller_hear (fun vs H Q E h => ?_) (fun cdv A outer s H vs Q E hr h => ?_)
  · obtain ⟨q, _, _, _, _, rfl, _⟩ := h
    rfl
  obtain ⟨q, dx, lt, s', fs, rfl, hp, n1, n2, two⟩ := h
  have hr4 : Room 4 _ := hr.mono (by decide)
  refine ⟨_, (pss_cons (ps_set (i := 3) sc_Caller_hear.nd rfl (Or.inl rfl) (pe_ix ix_tup (pv 2) pe_int (fun _ _ => rfl)))
    (pss_cons (ps_if (pt_cmpR op_eq (pv 3) pe_str (nomark _))
    (pss_one (ps_ret (pe_meth (pv 0) S.cl mA GA hr4 bA .nil pass0 (pa_cons (pv 1) (pa_cons (pe_ix ix_tup (pv 2) pe_int (fun _ _ => rfl)) pa_nil)))))
    pss_nil)
    (pss_cons (ps_if (pt_cmpR op_eq (pv 3) pe_str (nomark _))
    (pss_one ps_dead)
    pss_nil)
    (pss_cons (ps_if (pt_cmpR op_eq (pv 3) pe_str (nomark _))
    (pss_one ps_dead)
    pss_nil)
    (pss_one (ps_ret (pe_meth (pv 0) S.cl mK GK hr bK .nil pass0 (pa_cons (pv 1) (pa_cons (pv 2) pa_nil))))))))), ?_⟩
  rcases two with ⟨v, hl, h⟩ | ⟨xs, hl, h⟩
  · refine ⟨_, rfl, lt, _, _, _, rfl, rfl, hl, atI_nat (j := 0) rfl, ?_⟩
    refine ⟨_, rfl, rfl, _, rfl, iteT' (by decide +kernel) ?_⟩
    exact ⟨_, rfl, q, dx, _, rfl, hp, n1, _, rfl, _, rfl, lt, _, _, _, rfl, rfl, hl, atI_nat (j := 1) rfl, h⟩
  · refine ⟨_, rfl, lt, _, _, _, rfl, rfl, hl, atI_nat (j := 0) rfl, ?_⟩
    refine ⟨_, rfl, rfl, _, rfl, iteF' (by decide +kernel) ?_⟩
    refine ⟨_, rfl, rfl, _, rfl, iteF' (by decide +kernel) ?_⟩
    refine ⟨_, rfl, rfl, _, rfl, iteF' (by decide +kernel) ?_⟩
    exact ⟨_, rfl, q, dx, _, rfl, hp, n2, _, rfl, _, rfl, h⟩
/-! ### turned -/
theorem eqv_nilI (S : List Int) : PyData.eqv (.list (S.map PyData.int)) (.list []) = decide (S = []) := by
  cases S with
  | nil => simp [PyData.eqv, PyData.eqvAll]
  | cons a S => simp [PyData.eqv, PyData.eqvAll]
/-- both ways go on alike -/
theorem iteJ {c : Prop} [Decidable c] {D : L2.Ends} {σ : L2.St} {G : Hp} {A : Prop} (R : Hp → Prop) (h1 : c → (∀ H, R H → D.nx σ H) → A) (h2 : ¬ c → R G) (h : ∀ H, R H → D.nx σ H) : if c then A else tNext D σ G :=
  ite2 (fun c => h1 c h) fun c => h G (h2 c)
theorem cut_drop {xs : List V} {c : Int} (h0 : 0 ≤ c) (h1 : c ≤ xs.length) : cutV xs (some c) none = xs.drop c.toNat := by
  unfold cutV
  obtain ⟨k, rfl⟩ : ∃ k : Nat, c = (k : Int) := ⟨c.toNat, by omega⟩
  rw [HT.sIx_nat, HT.sIx_none, Int.toNat_natCast, Nat.min_eq_left (by omega)]
  exact List.take_of_length_le (by rw [List.length_drop]; exact Nat.le_refl _)
theorem cut_take {xs : List V} {c : Int} (h0 : 0 ≤ c) (h1 : c ≤ xs.length) : cutV xs none (some c) = xs.take c.toNat := by
  unfold cutV
  obtain ⟨k, rfl⟩ : ∃ k : Nat, c = (k : Int) := ⟨c.toNat, by omega⟩
  rw [HT.sIx_nat, HT.sIx_none, Int.toNat_natCast, Nat.min_eq_left (by omega)]
  simp
structure BlT97 (mg : Str → Option Value) : Prop extends BlL72 mg where
  range : mg "range" = none
  int : mg "int" = none
  tuple : mg "tuple" = none
def spTurned (K : PySem.W.Frag) : Sp := fun vs H Q _ => ∃ (a : Addr) (ns : List Int) (c : Int), vs = [.ref a, .int c] ∧ H a = some (.lst (ns.map V.int)) ∧ ns.length ≤ 1000 ∧ ∀ (l : Addr) (ys : List Int) (H' : Hp), Same H H' → H l = none → ys.Perm ns → H' l = some (.lst (ys.map V.int)) → Q (.ref l) H'
theorem sc_law_turned : FnScope ["row", "cell", "cut", "turned"] ["row", "cell"] (defScope s_law_turned) :=
  ⟨rfl, rfl, rfl, by decide +kernel, rfl, by decide +kernel, by decide +kernel⟩
theorem ok_turned (F : Fn K mg "_law_turned" s_law_turned) (T : BlT97 mg) : Cal P w K mg base "_law_turned" 1 ["row", "cell"] (spTurned K) := by
  refine cal_of F sc_law_turned
    (fun _ _ _ _ _ _ us hl => match us, hl with | [_, _], _ => rfl) ?_ ?_
  · rintro vs H Q E ⟨_, _, _, rfl, _⟩
    rfl
  rintro f cdv A outer s H vs Q E free hr ⟨a, ns, c, rfl, ha, l1, q⟩
  refine ⟨_, (pss_cons (ps_if (pt_cmpR (op_eqD (u64 hr)) (pv 0) (pe_lst pa_nil) (nomark _))
    (pss_one (ps_ret (pe_lst pa_nil)))
    pss_nil)
    (pss_cons (ps_set (i := 2) sc_law_turned.nd rfl (Or.inl rfl) (pe_op op_mod (pv 1) (pe_callB call_len_seq (by rfl) T.len (by decide +kernel) (pa_cons (pv 0) pa_nil))))
    (pss_cons (ps_set (i := 3) sc_law_turned.nd rfl (Or.inl rfl) (pe_op op_cat (pe_slice sl_list (pv 0) (po_some (pv 2)) po_none) (pe_slice sl_list (pv 0) po_none (po_some (pv 2)))))
    (pss_cons (ps_if (pt_cmpR op_eq (pe_op op_mod (pe_op op_fdivW (pv 1) pe_int) pe_int) pe_int (nomark _))
    (pss_one (ps_expr (pe_bm0 PySem.F.plainAttrs_list PySem.F.slot_list_reverse PySem.F.type_list_reverse mt_reverse (pv 3))))
    pss_nil)
    (pss_one (ps_ret (pv 3))))))), ?_⟩
  refine ⟨_, rfl, Nat.zero_le _, fun e he => ?_⟩
  have se := same_upd (o := .lst []) he
  refine ⟨.list (ns.map PyData.int), .list [], dp_ints (se _ _ ha), .lst (SqL.of upd_same) .nil, shaped_ints _, by decide, _, rfl, ?_⟩
  rw [eqv_nilI]
  have ha1 := se _ _ ha
  by_cases c0 : ns = []
  · refine iteT' (decide_eq_true c0) ?_
    exact ⟨Nat.zero_le _, fun z hz => q z [] _ (se.trans (same_upd hz)) (se.free hz) (by rw [c0]) upd_same⟩
  refine iteF' (decide_eq_false c0) ?_
  have lp : 0 < ns.length := List.length_pos_iff.mpr c0
  refine ⟨_, rfl, _, rfl, a, _, rfl, .inl (SqL.of ha1), _, _, rfl, rfl, (by show (0 : Int) < (((ns.map V.int).length : Nat) : Int); rw [List.length_map]; omega), ?_⟩
  obtain ⟨k, ek⟩ : ∃ k : Int, k = c % (((ns.map V.int).length : Nat) : Int) := ⟨_, rfl⟩
  have k0 : 0 ≤ k := by rw [ek]; exact Int.emod_nonneg _ (by rw [List.length_map]; omega)
  have k1 : k < (((ns.map V.int).length : Nat) : Int) := by rw [ek]; exact Int.emod_lt_of_pos _ (by rw [List.length_map]; omega)
  show gName 2 (V.int (c % (((ns.map V.int).length : Nat) : Int))) _ _ _
  rw [← ek]
  refine ⟨_, rfl, _, rfl, _, rfl, a, _, rfl, SqL.of ha1, fun x1 hx1 => ?_⟩
  rw [cut_drop k0 (by omega)]
  have s1 := same_upd (o := .lst ((ns.map V.int).drop k.toNat)) hx1
  refine ⟨_, rfl, _, rfl, _, rfl, a, _, rfl, SqL.of (s1 _ _ ha1), fun x2 hx2 => ?_⟩
  rw [cut_take k0 (by omega)]
  have s2 := same_upd (o := .lst ((ns.map V.int).take k.toNat)) hx2
  refine ⟨x1, x2, _, _, rfl, rfl, s2 _ _ upd_same, upd_same, ?_, fun x3 hx3 => ?_⟩
  · rw [List.length_drop, List.length_take, List.length_map]
    exact Nat.le_trans (show _ ≤ 2000 by omega) (by decide)
  have eP : (ns.map V.int).drop k.toNat ++ (ns.map V.int).take k.toNat = (ns.drop k.toNat ++ ns.take k.toNat).map V.int := by rw [List.map_append, List.map_drop, List.map_take]
  rw [eP]
  have pP : (ns.drop k.toNat ++ ns.take k.toNat).Perm ns := by
    refine List.perm_append_comm.trans ?_
    rw [List.take_append_drop]
  obtain ⟨ys, ey⟩ : ∃ ys, ys = ns.drop k.toNat ++ ns.take k.toNat := ⟨_, rfl⟩
  rw [← ey] at pP
  rw [← ey]
  have s3 := same_upd (o := .lst (ys.map V.int)) hx3
  have s13 := (se.trans s1).trans s2
  have x30 : H x3 = none := s13.free hx3
  refine ⟨_, rfl, _, _, rfl, rfl, ⟨by decide, by decide⟩, _, _, rfl, rfl, (by show (0 : Int) < 2; decide), rfl, _, rfl, ?_⟩
  refine iteJ (fun G => Same H G ∧ ∃ zs : List Int, zs.Perm ns ∧ G x3 = some (.lst (zs.map V.int))) (fun _ J => ?_) (fun _ => ?_) ?_
  · refine ⟨_, rfl, .inl ⟨rfl, _, SqL.of upd_same⟩, x3, _, rfl, rfl, upd_same, ?_⟩
    rw [upd_upd]
    exact J _ ⟨s13.trans (same_upd hx3), ys.reverse, (List.reverse_perm ys).trans pP, by rw [List.map_reverse]; exact upd_same⟩
  · exact ⟨s13.trans s3, ys, pP, upd_same⟩
  rintro G ⟨sG, zs, pz, kz⟩
  exact ⟨_, rfl, q x3 zs G sG x30 pz kz⟩
end

end G0
namespace G0
open PySem PySem.Spec PyProof.Rows L2 NdefX ClX
section
variable {P : Program} {w : World} {K : PySem.W.Frag} {mg : Str → Option Value} {base : Heap} {C CK : Addr}
/-! ### who is gone by then -/
def goneL (n b k bits : Int) : List Int := b :: (rangeI n).filter fun m => bitB bits m && !decide (m ∈ [b, k])
def spGoneBy (K : PySem.W.Frag) : Sp := fun vs H Q _ => ∃ n k b bits : Int, vs = [.int n, .int k, .int b, .int bits] ∧ 0 ≤ n ∧ n ≤ 60 ∧ ∀ (l : Addr) (H' : Hp), Same H H' → H l = none → H' l = some (.lst ((goneL n b k bits).map V.int)) → Q (.ref l) H'
theorem sc_law_gone_by : FnScope ["seats", "keep", "begins", "bits", "some", "seat"] ["seats", "keep", "begins", "bits"] (defScope s_law_gone_by) :=
  ⟨rfl, rfl, rfl, by decide +kernel, rfl, by decide +kernel, by decide +kernel⟩
theorem ok_goneby (F : Fn K mg "_law_gone_by" s_law_gone_by) (T : BlT97 mg) : Cal P w K mg base "_law_gone_by" 1 ["seats", "keep", "begins", "bits"] (spGoneBy K) := by
  refine cal_of F sc_law_gone_by
    (fun _ _ _ _ _ _ us hl => match us, hl with | [_, _, _, _], _ => rfl) ?_ ?_
  · rintro vs H Q E ⟨_, _, _, _, rfl, _⟩
    rfl
  rintro f cdv A outer s H vs Q E free hr ⟨n, k, b, bits, rfl, n0, n60, q⟩
  refine ⟨_, (pss_cons (ps_set (i := 4) sc_law_gone_by.nd rfl (Or.inl rfl) (pe_lst (pa_cons (pv 2) pa_nil)))
    (pss_cons (ps_for PassesOwn.never rfl (pi_range1 (by rfl) T.range (pa_cons (pv 0) pa_nil)) (pg_name (i := 5) sc_law_gone_by.nd rfl (Or.inl rfl))
    (pss_one (ps_if (PW.pt (pw_and (pt_cmpR op_eq (pe_op op_and (pe_op op_shr (pv 3) (pv 5)) pe_int) pe_int (nomark _)) (pw_and1 (pt_cmpR u_notin (pv 5) (pe_lst (pa_cons (pv 2) (pa_cons (pv 1) pa_nil))) (by rfl)))))
    (pss_one (ps_expr (pe_bm PySem.F.plainAttrs_list PySem.F.slot_list_append PySem.F.type_list_append mt_append (pv 4) (pa_cons (pv 5) pa_nil))))
    pss_nil)))
    (pss_one (ps_ret (pv 4))))), ?_⟩
  refine ⟨_, rfl, by show 1 ≤ sizeLine; decide, fun l hl => ?_⟩
  refine ⟨_, rfl, _, rfl, by omega, by omega, ?_⟩
  refine for_range (lo := 0) (n := n.toNat) (fun i σ G => (∃ z5 : Option V, σ = [some (V.int n), some (V.int k), some (V.int b), some (V.int bits), some (V.ref l), z5]) ∧ Same H G ∧ G l = some (.lst ((b :: ((rangeI n).take i).filter fun m => bitB bits m && !decide (m ∈ [b, k])).map V.int))) ⟨⟨_, rfl⟩, same_upd hl, upd_same⟩ ?_ ?_
  · rintro i σ G hi ⟨⟨z5, rfl⟩, sG, kl⟩
    have er := rangeI_at (n := n) (j := i) (by omega)
    rw [filt_next _ er]
    refine ⟨_, rfl, _, rfl, _, _, rfl, rfl, (by show (0 : Int) ≤ 0 + (i : Int); omega), _, _, rfl, rfl, rfl, _, rfl, ?_⟩
    rw [dec_ii, Int.zero_add]
    cases cB : bitB bits (i : Int) with
    | false =>
      refine iteF' cB (iteF ?_)
      rw [Bool.false_and, if_neg (by decide), List.append_nil]
      exact ⟨⟨_, rfl⟩, sG, kl⟩
    | true =>
      refine iteT' cB ?_
      rw [Bool.true_and]
      refine ⟨_, rfl, _, rfl, _, rfl, by show 2 ≤ sizeLine; decide, fun t ht => ?_⟩
      have st := same_upd (o := .lst ([b, k].map V.int)) ht
      refine .inl ⟨t, [b, k].map V.int, rfl, .inl (SqL.of upd_same), rfl, flat_ints _, _, rfl, ?_⟩
      rw [inV_ints]
      have klt := st _ _ kl
      obtain ⟨bk, ebk⟩ : ∃ bk, bk = decide ((i : Int) ∈ [b, k]) := ⟨_, rfl⟩
      rw [← ebk]
      cases bk with
      | true =>
        refine iteF' rfl ?_
        rw [if_neg (by decide), List.append_nil]
        exact ⟨⟨_, rfl⟩, sG.trans st, klt⟩
      | false =>
        refine iteT' rfl ?_
        rw [if_pos (by decide)]
        refine ⟨_, rfl, .inl ⟨rfl, _, SqL.of klt⟩, _, rfl, l, _, _, rfl, rfl, klt, ?_, ?_⟩
        · rw [List.length_map, List.length_cons]
          have h1 := List.length_filter_le (fun m => bitB bits m && !decide (m ∈ [b, k])) ((rangeI n).take i)
          rw [List.length_take] at h1
          exact Nat.lt_of_lt_of_le (show _ < 100 by omega) (by decide)
        · refine ⟨⟨_, rfl⟩, fun a o e => ?_, ?_⟩
          · rw [upd_ne (ne_of_none e hl)]
            exact st _ _ (sG _ _ e)
          · rw [← List.cons_append, List.map_append (l₂ := [(i : Int)])]
            exact upd_same
  rintro σ G ⟨⟨z5, rfl⟩, sG, kl⟩
  rw [List.take_of_length_le (by rw [rangeI_len]; first | exact Nat.le_refl _ | omega)] at kl
  exact ⟨_, rfl, q l G sG hl kl⟩
/-- what stays while one caller changes: all but instances, dicts and its own numbers -/
def FrN (N : List Addr) (H H' : Hp) : Prop := ∀ a o, H a = some o → (∀ D d fs, o ≠ .ins D d fs) → (∀ kvs, o ≠ .dK kvs) → ((∃ xs, o = .lst xs) → a ∉ N) → H' a = some o
theorem FrN.trans {N : List Addr} {H H1 H2 : Hp} (a : FrN N H H1) (b : FrN N H1 H2) : FrN N H H2 := fun x o e n1 n2 n3 => b x o (a x o e n1 n2 n3) n1 n2 n3
theorem Same.frn {N : List Addr} {H H1 : Hp} (a : Same H H1) : FrN N H H1 := fun x o e _ _ _ => a x o e
theorem sqt_frn {K : PySem.W.Frag} {N : List Addr} {H H' : Hp} (c : FrN N H H') {a : Addr} {xs : List V} (h : SqT K H a xs) : SqT K H' a xs := by
  rcases h with (z | ⟨o', z⟩) | z
  · exact .inl (.inl (c _ _ z (fun _ _ _ e => nomatch e) (fun _ e => nomatch e) (fun ⟨_, e⟩ => nomatch e)))
  · exact .inl (.inr ⟨o', c _ _ z (fun _ _ _ e => nomatch e) (fun _ e => nomatch e) (fun ⟨_, e⟩ => nomatch e)⟩)
  · exact .inr z
theorem lst_frn {N : List Addr} {H H' : Hp} (c : FrN N H H') {a : Addr} {xs : List V} (h : H a = some (.lst xs)) (n : a ∉ N) : H' a = some (.lst xs) :=
  c _ _ h (fun _ _ _ e => nomatch e) (fun _ e => nomatch e) fun _ => n
/-! ### the one caller -/
structure One where
  o : Addr
  dx : Addr
  ro : Addr
  nu : Addr
  pl : Addr
  st : Str
  rnd : Int
  bg : V
  f : Int → Int
  rs : List Int
  kvs : List (Key × V)
  ps : List (Int × Int)
structure OnAt (K : PySem.W.Frag) (H : Hp) (C : Addr) (n me : Int) (key : V) (c : One) : Prop where
  at_ : CalAt H C c.o c.dx me c.st c.rnd c.ro c.nu key c.bg c.pl c.rs (msF n c.f) c.kvs
  pl_ : PlD K H c.kvs c.ps
  rn : c.ro ≠ c.nu
theorem OnAt.same {H H' : Hp} {n me : Int} {key : V} {c : One} (h : OnAt K H C n me key c) (s : Same H H') : OnAt K H' C n me key c := ⟨h.at_.same s, h.pl_.same s, h.rn⟩
/-- what changes lies in the instance, its numbers, its dict -/
theorem OnAt.frn {H H' : Hp} {n me : Int} {key : V} {c : One} {A : List Addr} (h : OnAt K H C n me key c) (ch : ChgS A H H') (w : ∀ a ∈ A, a = c.o ∨ a = c.nu ∨ a = c.pl) : FrN [c.nu] H H' := fun a o e n1 n2 n3 => ch a o (fun m => by
  rcases w a m with z | z | z
  · rw [z, h.at_.hp] at e; exact n1 _ _ _ (Option.some.inj e).symm
  · rw [z, h.at_.hn] at e; exact n3 ⟨_, (Option.some.inj e).symm⟩ (by rw [z]; exact List.mem_singleton.mpr rfl)
  · rw [z, h.at_.hpl] at e; exact n2 _ (Option.some.inj e).symm) e
/-- a caller, its pledges told by their keys alone -/
structure OnK (H : Hp) (C : Addr) (n me : Int) (key : V) (c : One) : Prop where
  at_ : CalAt H C c.o c.dx me c.st c.rnd c.ro c.nu key c.bg c.pl c.rs (msF n c.f) c.kvs
  keys : c.kvs.map (·.1) = c.ps.map (fun p => Sum.inl p.1)
theorem OnK.same {H H' : Hp} {n me : Int} {key : V} {c : One} (h : OnK H C n me key c) (s : Same H H') : OnK H' C n me key c := ⟨h.at_.same s, h.keys⟩
theorem OnAt.k {H : Hp} {n me : Int} {key : V} {c : One} (h : OnAt K H C n me key c) : OnK H C n me key c := ⟨h.at_, h.pl_.keys⟩
/-! ### the line as the law has it -/
def lineR (ls : List Int) (me : Int) (mo : List Int) : List Int := (ls.filter fun m => decide (me < m) && decide (m ∈ mo)) ++ ls.filter fun m => decide (m ≤ me) && decide (m ∈ mo)
def spLine (K : PySem.W.Frag) (C : Addr) : Sp := fun vs H Q _ => ∃ (q la ma : Addr) (n me : Int) (key : V) (c : One) (ls mo : List Int), vs = [.ref q, .ref la, .ref ma] ∧ q = c.o ∧ OnK H C n me key c ∧ H la = some (.lst (ls.map V.int)) ∧ H ma = some (.lst (mo.map V.int)) ∧ ls.length ≤ 60 ∧
  ∀ (l : Addr) (H' : Hp), Same H H' → H l = none → H' l = some (.lst ((lineR ls me mo).map V.int)) → Q (.ref l) H'
theorem sc_law_line : FnScope ["one", "living", "more", "behind", "seat"] ["one", "living", "more"] (defScope s_law_line) :=
  ⟨rfl, rfl, rfl, by decide +kernel, rfl, by decide +kernel, by decide +kernel⟩
theorem ok_line (F : Fn K mg "_law_line" s_law_line) (S : CalT K C) : Cal P w K mg base "_law_line" 1 ["one", "living", "more"] (spLine K C) := by
  refine cal_of F sc_law_line
    (fun _ _ _ _ _ _ us hl => match us, hl with | [_, _, _], _ => rfl) ?_ ?_
  · rintro vs H Q E ⟨_, _, _, _, _, _, _, _, _, rfl, _⟩
    rfl
  rintro f cdv A outer s H vs Q E free hr ⟨q, la, ma, n, me, key, c, ls, mo, rfl, rfl, O, kl, km, l60, k⟩
  refine ⟨_, (pss_cons (ps_setLc (i := 3) (own := [("seat", 4)]) (g := gName 4)  (by rfl) sc_law_line.nd rfl rfl (sw_true rfl rfl rfl (by decide +kernel)) (pi_list (pv 1)) (blkOk_by (N := ["one", "living", "more", "behind", "seat"]) (sc := defScope s_law_line) (by decide +kernel)) (fun _ _ _ _ _ => pg_name (i := 4) sc_law_line.nd rfl (Or.inl rfl)) (fun _ _ _ _ _ => pts_one (PW.pt (pw_and (pt_cmpR op_gt (pv 4) (pe_fldK K (pv 0)) (nomark _)) (pw_and1 (pt_cmpR (u_inK K) (pv 4) (pv 2) (by rfl)))))) (fun _ _ _ _ _ => (pv 4)))
    (pss_one (ps_ret (pe_op op_cat (pv 3) (pe_lc (own := [("seat", 4)]) (g := gName 4)  (by rfl) sc_law_line.nd (pi_list (pv 1)) (blkOk_by (N := ["one", "living", "more", "behind", "seat"]) (sc := defScope s_law_line) (by decide +kernel)) (fun _ _ _ _ _ => pg_name (i := 4) sc_law_line.nd rfl (Or.inl rfl)) (fun _ _ _ _ _ => pts_one (PW.pt (pw_and (pt_cmpR op_le (pv 4) (pe_fldK K (pv 0)) (nomark _)) (pw_and1 (pt_cmpR (u_inK K) (pv 4) (pv 2) (by rfl)))))) (fun _ _ _ _ _ => (pv 4))))))), ?_⟩
  refine ⟨_, rfl, la, rfl, ⟨_, SqL.of (kl)⟩, fun D1 hD1 => ?_⟩
  refine lc_filtI (K := K) (a := la) (ns := ls) (fun m => decide (me < m) && decide (m ∈ mo)) (by omega) hD1 (SqL.of (kl)) (fun i x G Y B hx sG h => ?_) (fun G1 sG1 kD1 => ?_)
  · have A1 := (O.same sG).at_
    refine ⟨rfl, _, rfl, _, rfl, c.o, C, c.dx, _, _, rfl, A1.hp, S.cl, S.me, caF_me _ _ _ _ _ _ _ _ _, _, _, rfl, rfl, _, rfl, ?_⟩
    cases c1 : decide (me < x) with
    | false =>
      rw [c1, Bool.false_and, if_neg (by decide)] at h
      exact iteF (iteF h)
    | true =>
      rw [c1, Bool.true_and] at h
      refine iteT ?_
      refine ⟨_, rfl, _, rfl, .inl ⟨ma, _, rfl, .inl (SqL.of (sG _ _ (km))), rfl, flat_ints _, _, rfl, ?_⟩⟩
      exact tst (by rw [inV_ints]; rfl) (fun y => ⟨_, rfl, y⟩) h
  have kD1 : G1 D1 = some (.lst ((ls.filter fun m => decide (me < m) && decide (m ∈ mo)).map V.int)) := kD1
  refine ⟨_, rfl, ?_⟩
  have O1 := O.same sG1
  refine ⟨_, rfl, la, rfl, ⟨_, SqL.of (sG1 _ _ kl)⟩, fun D2 hD2 => ?_⟩
  refine lc_filtI (K := K) (a := la) (ns := ls) (fun m => decide (m ≤ me) && decide (m ∈ mo)) (by omega) hD2 (SqL.of (sG1 _ _ kl)) (fun i x G Y B hx sG h => ?_) (fun G2 sG2 kD2 => ?_)
  · have A1 := (O1.same sG).at_
    refine ⟨rfl, _, rfl, _, rfl, c.o, C, c.dx, _, _, rfl, A1.hp, S.cl, S.me, caF_me _ _ _ _ _ _ _ _ _, _, _, rfl, rfl, _, rfl, ?_⟩
    cases c1 : decide (x ≤ me) with
    | false =>
      rw [c1, Bool.false_and, if_neg (by decide)] at h
      exact iteF (iteF h)
    | true =>
      rw [c1, Bool.true_and] at h
      refine iteT ?_
      refine ⟨_, rfl, _, rfl, .inl ⟨ma, _, rfl, .inl (SqL.of (sG _ _ (sG1 _ _ km))), rfl, flat_ints _, _, rfl, ?_⟩⟩
      exact tst (by rw [inV_ints]; rfl) (fun y => ⟨_, rfl, y⟩) h
  have s2 : Same H G2 := sG1.trans sG2
  refine ⟨D1, D2, _, _, rfl, rfl, sG2 _ _ kD1, kD2, ?_, fun l hl => ?_⟩
  · rw [List.length_map, List.length_map]
    have h1 := List.length_filter_le (fun m => decide (me < m) && decide (m ∈ mo)) ls
    have h2 := List.length_filter_le (fun m => decide (m ≤ me) && decide (m ∈ mo)) ls
    exact Nat.le_trans (show _ ≤ 1000 by omega) (by decide)
  rw [← List.map_append]
  exact k l _ (s2.trans (same_upd hl)) (s2.free hl) upd_same
/-! ### asks are heard -/
def wantsI (mo : List Int) (s : Int) : Int := if s ∈ mo then 1 else 0
def wentF (me : Int) (mo : List Int) (W : List (Int × Int)) (f : Int → Int) : Int → Int := W.foldl (fun f p => if p.1 = me then f else updI f p.1 (p.2 + wantsI mo p.1)) f
theorem wentF_snoc (me : Int) (mo : List Int) (W : List (Int × Int)) (p : Int × Int) (f : Int → Int) : wentF me mo (W ++ [p]) f = if p.1 = me then wentF me mo W f else updI (wentF me mo W f) p.1 (p.2 + wantsI mo p.1) := by
  unfold wentF
  rw [List.foldl_append]
  rfl
theorem wentF_not {me : Int} {mo : List Int} {m : Int} : ∀ {W : List (Int × Int)} {f : Int → Int}, m ∉ W.map (·.1) → wentF me mo W f m = f m
  | [], _, _ => rfl
  | p :: W, f, h => by
    rw [List.map_cons, List.mem_cons, not_or] at h
    show wentF me mo W (if p.1 = me then f else updI f p.1 (p.2 + wantsI mo p.1)) m = f m
    rw [wentF_not h.2]
    split
    · rfl
    · unfold updI
      rw [if_neg h.1]
theorem wentF_mem {me : Int} {mo : List Int} {m v : Int} : ∀ {W : List (Int × Int)} {f : Int → Int}, (W.map (·.1)).Nodup → (m, v) ∈ W → m ≠ me → wentF me mo W f m = v + wantsI mo m
  | [], _, _, h, _ => absurd h List.not_mem_nil
  | p :: W, f, nd, h, ne => by
    rw [List.map_cons, List.nodup_cons] at nd
    show wentF me mo W (if p.1 = me then f else updI f p.1 (p.2 + wantsI mo p.1)) m = v + wantsI mo m
    rcases List.mem_cons.mp h with e | h
    · subst e
      rw [wentF_not nd.1, if_neg ne]
      unfold updI
      rw [if_pos rfl]
    · exact wentF_mem nd.2 h ne
def heardO (c : One) (f : Int → Int) : One := { c with f := f }
def spHeard97 (K : PySem.W.Frag) (C : Addr) : Sp := fun vs H Q _ => ∃ (q wa ma : Addr) (n me : Int) (c : One) (hs : List V) (W : List (Int × Int)) (mo : List Int), vs = [.ref q, .ref wa, .ref ma] ∧ q = c.o ∧ OnAt K H C n me .non c ∧ n ≤ 60 ∧ 0 ≤ me ∧ me < n ∧ H wa = some (.lst hs) ∧ DpAll K H hs (W.map pairD) ∧ H ma = some (.lst (mo.map V.int)) ∧ wa ≠ c.nu ∧ ma ≠ c.nu ∧
  (W.map (·.1)).Nodup ∧ (∀ p ∈ W, (0 ≤ p.1 ∧ p.1 < n) ∧ 0 ≤ p.2 ∧ p.2 ≤ 3 ∧ (p.1 ≠ me → c.f p.1 = 0)) ∧ ∀ H', OnAt K H' C n me .non (heardO c (wentF me mo W c.f)) → FrN [c.nu] H H' → Q (.bl true) H'
theorem sc_law_heard : FnScope ["one", "went", "more", "seat", "often", "number"] ["one", "went", "more"] (defScope s_law_heard) :=
  ⟨rfl, rfl, rfl, by decide +kernel, rfl, by decide +kernel, by decide +kernel⟩
theorem ok_heard97 {CK : Addr} (F : Fn K mg "_law_heard" s_law_heard) (T : BlT97 mg) (S : CalT K C) (MH : Me P w K mg base C "hear" 6 ["self", "sender", "letter"] (spHear97 K C CK)) (MN : Me P w K mg base C "numbers" 1 ["self"] (spNum C)) : Cal P w K mg base "_law_heard" 7 ["one", "went", "more"] (spHeard97 K C) := by
  obtain ⟨fH, fdH, GH, bH, mH⟩ := MH
  obtain ⟨fN, fdN, GN, bN, mN⟩ := MN
  refine cal_of F sc_law_heard
    (fun _ _ _ _ _ _ us hl => match us, hl with | [_, _, _], _ => rfl) ?_ ?_
  · rintro vs H Q E ⟨_, _, _, _, _, _, _, _, _, rfl, _⟩
    rfl
  rintro f cdv A outer s H vs Q E free hr ⟨q, wa, ma, n, me, c, hs, W, mo, rfl, rfl, O, n60, m0, m1, kw, dw, km, nw, nm, ndW, bW, k⟩
  have hr1 : Room 1 _ := hr.mono (by decide)
  refine ⟨_, (pss_cons (ps_for PassesOwn.never rfl (pi_list (pv 1)) (pg_tup (by rfl) (pgs_cons (pg_name (i := 3) sc_law_heard.nd rfl (Or.inl rfl)) (pgs_cons (pg_name (i := 4) sc_law_heard.nd rfl (Or.inl rfl)) pgs_nil)))
    (pss_cons (ps_for PassesOwn.never rfl (pi_range2 (by rfl) T.range (pa_cons pe_int (pa_cons (pe_op op_add (pe_op op_add (pv 4) pe_int) (pe_callTy call_int1 (by rfl) T.int (by decide +kernel) (pa_cons (pe_cmpR u_in (pv 3) (pv 2) (by rfl)) pa_nil))) pa_nil))) (pg_name (i := 5) sc_law_heard.nd rfl (Or.inl rfl))
    (pss_one (ps_if (PW.pt (pw_and (pt_cmpR op_ne (pv 3) (pe_fld (pv 0) (by rfl)) (nomark _)) (pw_and1 (pt_cmpR (op_neD (u64 hr)) (pe_meth (pv 0) S.cl mH GH hr bH .nil pass0 (pa_cons (pv 3) (pa_cons (pe_tup (pa_cons pe_str (pa_cons (pv 5) pa_nil))) pa_nil))) (pe_lst pa_nil) (nomark _)))))
    (pss_one (ps_ret pe_bl))
    pss_nil)))
    (pss_one (ps_if (PW.pt (pw_and (pt_cmpR op_ne (pv 3) (pe_fld (pv 0) (by rfl)) (nomark _)) (pw_and1 (pt_cmpR op_ne (pe_ix ix_list (pe_meth0 (pv 0) S.cl mN GN hr1 bN .nil pass0) (pv 3) (fun _ _ => rfl)) (pe_op op_add (pv 4) (pe_callTy call_int1 (by rfl) T.int (by decide +kernel) (pa_cons (pe_cmpR u_in (pv 3) (pv 2) (by rfl)) pa_nil))) (nomark _)))))
    (pss_one (ps_ret pe_bl))
    pss_nil))))
    (pss_one (ps_ret pe_bl))), ?_⟩
  refine ⟨_, rfl, wa, rfl, ⟨_, SqL.of kw⟩, ?_⟩
  have lhs : hs.length = W.length := by rw [dps_len dw, List.length_map]
  refine for_list (K := K) (a := wa) (xs := hs) (fun j σ G => (∃ z3 z4 z5 : Option V, σ = [some (V.ref c.o), some (V.ref wa), some (V.ref ma), z3, z4, z5]) ∧ OnAt K G C n me .non (heardO c (wentF me mo (W.take j) c.f)) ∧ FrN [c.nu] H G) ⟨⟨_, _, _, rfl⟩, O, Same.frn (Same.refl H)⟩ (fun j σ G _ h => SqL.of (lst_frn h.2.2 kw (by simpa using nw))) ?_ ?_
  · rintro j x σ G hx ⟨⟨z3, z4, z5, rfl⟩, OG, fG⟩
    have dG := dps_kt (fun a xs => sqt_frn fG) _ _ (noLs_pairs W) dw
    obtain ⟨p, hp, dp⟩ := dps_at' dG hx
    obtain ⟨t, v1, v2, rfl, qt1, d1, d2⟩ := two_dp dp
    cases d1
    cases d2
    obtain ⟨⟨b0, b1⟩, p0, p3, pf⟩ := bW p (List.mem_of_getElem? hp)
    refine ⟨t, _, rfl, qt1, rfl, _, _, rfl, _, _, rfl, rfl, ?_⟩
    have kmG := lst_frn fG km (by simpa using nm)
    refine ⟨_, rfl, _, _, rfl, rfl, _, rfl, _, rfl, .inl ⟨ma, _, rfl, .inl (SqL.of kmG), rfl, flat_ints _, ?_⟩⟩
    rw [inV_ints]
    refine .inr ⟨decide (p.1 ∈ mo), rfl, ?_⟩
    rw [show (if decide (p.1 ∈ mo) = true then (1 : Int) else 0) = wantsI mo p.1 by unfold wantsI; simp]
    refine ⟨_, _, rfl, rfl, ?_⟩
    obtain ⟨u, eu⟩ : ∃ u : Int, u = p.2 + wantsI mo p.1 := ⟨_, rfl⟩
    have w01 : 0 ≤ wantsI mo p.1 ∧ wantsI mo p.1 ≤ 1 := by unfold wantsI; split <;> decide
    obtain ⟨F, eF⟩ : ∃ F, F = wentF me mo (W.take j) c.f := ⟨_, rfl⟩
    rw [← eF] at OG
    have F0 : p.1 ≠ me → F p.1 = 0 := fun ne => by
      rw [eF, wentF_not (fun m => ?_)]
      · exact pf ne
      · obtain ⟨j2, lj2, ej2⟩ := List.mem_iff_getElem.mp m
        rw [List.length_map, List.length_take] at lj2
        rw [List.getElem_map, List.getElem_take] at ej2
        have h1 : (W.map (·.1))[j2]? = some p.1 := by rw [List.getElem?_map, List.getElem?_eq_getElem (by omega), ← ej2]; rfl
        have h2 : (W.map (·.1))[j]? = some p.1 := by rw [List.getElem?_map, hp]; rfl
        have := (List.getElem?_inj (by rw [List.length_map]; omega) ndW).mp (h1.trans h2.symm)
        omega
    obtain ⟨gI, egI⟩ : ∃ gI : Int → Int → Int, gI = fun v => if p.1 = me then F else updI F p.1 v := ⟨_, rfl⟩
    have g0 : gI 0 = F := by
      rw [egI]
      by_cases e : p.1 = me
      · exact if_pos e
      · refine (if_neg e).trans (funext fun m => ?_)
        unfold updI
        by_cases em : m = p.1
        · rw [if_pos em, em, F0 e]
        · rw [if_neg em]
    have gu : gI u = wentF me mo (W.take (j + 1)) c.f := by
      rw [egI, List.take_succ, hp, Option.toList_some, wentF_snoc, ← eF, ← eu]
    refine ⟨1, _, rfl, ⟨by decide, by decide, by omega, by omega⟩, ?_⟩
    have en : (p.2 + 1 + wantsI mo p.1 - 1).toNat = u.toNat := by omega
    refine for_range (lo := 1) (n := _) (fun i σ G => (∃ z5 : Option V, σ = [some (V.ref c.o), some (V.ref wa), some (V.ref ma), some (V.int p.1), some (V.int p.2), z5]) ∧ OnAt K G C n me .non (heardO c (gI (i : Int))) ∧ FrN [c.nu] H G) ⟨⟨_, rfl⟩, by show OnAt K G C n me .non (heardO c (gI 0)); rw [g0]; exact OG, fG⟩ ?_ ?_
    · rintro i σ G1 hi ⟨⟨z5, rfl⟩, O1, f1⟩
      have A1 := O1.at_
      refine ⟨_, rfl, _, rfl, c.o, C, c.dx, _, _, rfl, A1.hp, S.cl, S.me, caF_me _ _ _ _ _ _ _ _ _, rfl, _, rfl, ?_⟩
      rw [dec_ii]
      by_cases e : p.1 = me
      · refine iteF' (by rw [decide_eq_true e]; rfl) (iteF ?_)
        refine ⟨⟨_, rfl⟩, ?_, f1⟩
        have : gI ((i + 1 : Nat) : Int) = gI (i : Int) := by rw [egI]; show (if p.1 = me then F else _) = (if p.1 = me then F else _); rw [if_pos e, if_pos e]
        rw [this]
        exact O1
      · refine iteT' (by rw [decide_eq_false e]; rfl) ?_
        refine ⟨_, rfl, c.o, c.dx, _, rfl, A1.hp, (A1.no "hear").2, _, rfl, _, rfl, by show 2 ≤ sizeLine; decide, fun lt hlt => ?_⟩
        have s2 := same_upd (o := .tup [.str "ask", .int (1 + (i : Int))]) hlt
        have O2 := O1.same s2
        have A2 := O2.at_
        have lms : ((msF n (gI (i : Int))).length : Int) = n := by rw [msF_len]; omega
        refine ⟨c.o, c.dx, lt, p.1, _, rfl, A2.hp, (A2.no "_hear_ask").2, (A2.no "_hear_pledge").2, .inl ⟨1 + (i : Int), SqT.of upd_same, c.o, c.dx, c.ro, c.nu, c.pl, me, c.rnd, p.1, 1 + (i : Int), c.st, .non, c.bg, c.rs, msF n (gI (i : Int)), c.kvs, rfl, A2, b0, by omega, O1.rn, .inl ⟨.inl rfl, fun z G2 ch A3 kz => ?_⟩⟩⟩
        have gp : gI (i : Int) p.1 = (i : Int) := by rw [egI]; show (if p.1 = me then F else updI F p.1 (i : Int)) p.1 = _; rw [if_neg e]; unfold updI; rw [if_pos rfl]
        rw [learn_F b0 b1, gp, if_pos (by omega)] at A3
        have gn : updI (gI (i : Int)) p.1 (1 + (i : Int)) = gI ((i + 1 : Nat) : Int) := by
          rw [egI]
          show updI (if p.1 = me then F else updI F p.1 (i : Int)) p.1 (1 + (i : Int)) = (if p.1 = me then F else updI F p.1 ((i + 1 : Nat) : Int))
          rw [if_neg e, if_neg e]
          funext m
          unfold updI
          split
          · omega
          · rfl
        rw [gn] at A3
        have O3 : OnAt K G2 C n me .non (heardO c (gI ((i + 1 : Nat) : Int))) := ⟨A3, O2.pl_.chgs (S := []) (sqt_chgs ch fun a ha => by rw [List.mem_singleton.mp ha]; exact .inl ⟨_, A2.hn⟩), O1.rn⟩
        have f3 : FrN [c.nu] H G2 := (f1.trans (Same.frn s2)).trans (O2.frn ch fun a ha => .inr (.inl (List.mem_singleton.mp ha)))
        refine ⟨Nat.zero_le _, fun e1 he1 => ?_⟩
        have s4 := same_upd (o := .lst []) he1
        refine ⟨.list [], .list [], .lst (SqL.of (s4 _ _ kz)) .nil, .lst (SqL.of upd_same) .nil, by decide, by decide, _, rfl, iteF' (by decide +kernel) ?_⟩
        exact ⟨⟨_, rfl⟩, O3.same s4, f3.trans (Same.frn s4)⟩
    rintro σ G1 ⟨⟨z5, rfl⟩, O1, f1⟩
    rw [show (((p.2 + 1 + wantsI mo p.1 - 1).toNat : Nat) : Int) = u by omega, gu] at O1
    have A1 := O1.at_
    refine ⟨_, rfl, _, rfl, c.o, C, c.dx, _, _, rfl, A1.hp, S.cl, S.me, caF_me _ _ _ _ _ _ _ _ _, rfl, _, rfl, ?_⟩
    rw [dec_ii]
    by_cases e : p.1 = me
    · refine iteF' (by rw [decide_eq_true e]; rfl) (iteF ?_)
      exact ⟨⟨_, _, _, rfl⟩, O1, f1⟩
    · refine iteT' (by rw [decide_eq_false e]; rfl) ?_
      refine ⟨_, rfl, c.o, c.dx, _, rfl, A1.hp, (A1.no "numbers").2, c.o, c.dx, me, c.st, c.rnd, c.ro, c.nu, .non, c.bg, c.pl, c.rs, _, c.kvs, rfl, A1, fun l3 h3 => ?_⟩
      have s3 := same_upd (o := .lst ((msF n (wentF me mo (W.take (j + 1)) c.f)).map V.int)) h3
      have kmH := s3 _ _ (lst_frn f1 km (by simpa using nm))
      refine ⟨_, rfl, l3, _, _, .int u, rfl, rfl, SqL.of upd_same, ?_, _, rfl, _, rfl, _, rfl, .inl ⟨ma, _, rfl, .inl (SqL.of kmH), rfl, flat_ints _, ?_⟩⟩
      · rw [at_ms b0 (by rw [msF_len]; omega), msF_get b0 b1, ← gu, egI]
        show some (V.int ((if p.1 = me then F else updI F p.1 u) p.1)) = some (V.int u)
        rw [if_neg e]
        unfold updI
        rw [if_pos rfl]
      rw [inV_ints]
      refine .inr ⟨decide (p.1 ∈ mo), rfl, ?_⟩
      rw [show (if decide (p.1 ∈ mo) = true then (1 : Int) else 0) = wantsI mo p.1 by unfold wantsI; simp]
      refine ⟨_, _, rfl, rfl, rfl, _, rfl, iteF' ?_ ?_⟩
      · rw [dec_ii, decide_eq_true eu]
        rfl
      · exact ⟨⟨_, _, _, rfl⟩, O1.same s3, f1.trans (Same.frn s3)⟩
  rintro σ G ⟨⟨z3, z4, z5, rfl⟩, OG, fG⟩
  rw [List.take_of_length_le (by omega)] at OG
  exact k G OG fG
end

end G0
namespace G0
open PySem PySem.Spec PyProof.Rows L2 NdefX ClX
theorem eq_bl {b : Bool} (h : b = true) : (!b) = false := by rw [h]; rfl
theorem shaped_by {d : PyData} (h1 : d.canLay0 = true) (h2 : d.depth ≤ 64) : SeqAt.shaped d = true := by
  show (d.canLay0 && decide (d.depth ≤ 64)) = true
  simp [h1, h2]
theorem lay_tos {d : PyData} (h : d.canLay0 = true) : ∀ l : List Int, PyData.canLayAll0 (l.map (toD d)) = true
  | [] => by simp [PyData.canLayAll0]
  | x :: l => by simp [PyData.canLayAll0, PyData.canLay0, toD, h, lay_tos h l]
theorem deep_tos {d : PyData} : ∀ l : List Int, PyData.depthAll (l.map (toD d)) ≤ d.depth + 1
  | [] => by simp [PyData.depthAll]
  | x :: l => by
    have := deep_tos (d := d) l
    simp [PyData.depthAll, PyData.depth, toD]
    omega
theorem shaped_tos {d : PyData} (h : d.canLay0 = true) (h2 : d.depth ≤ 60) (l : List Int) : SeqAt.shaped (.list (l.map (toD d))) = true := by
  refine shaped_by (by simp [PyData.canLay0, lay_tos h l]) ?_
  have := deep_tos (d := d) l
  simp [PyData.depth]
  omega
theorem lay_ask (n : Int) : (askD n).canLay0 = true := by
  simp [askD, PyData.canLay0, PyData.canLayAll0]
  decide +kernel
theorem deep_ask (n : Int) : (askD n).depth ≤ 60 := by simp [askD, PyData.depth, PyData.depthAll]
theorem lay_prs : ∀ S : List (Int × Int), PyData.canLayAll0 (S.map pairD) = true
  | [] => by simp [PyData.canLayAll0]
  | p :: S => by simp [PyData.canLayAll0, PyData.canLay0, pairD, lay_prs S]
theorem deep_prs : ∀ S : List (Int × Int), PyData.depthAll (S.map pairD) ≤ 1
  | [] => by simp [PyData.depthAll]
  | p :: S => by
    have := deep_prs S
    simp [PyData.depthAll, PyData.depth, pairD]
    omega
theorem lay_key (r : Int) (S : List (Int × Int)) (ns : List Int) : (keyD r S ns).canLay0 = true := by
  simp [keyD, PyData.canLay0, PyData.canLayAll0, lay_prs, lay_ints]
  decide +kernel
theorem deep_key (r : Int) (S : List (Int × Int)) (ns : List Int) : (keyD r S ns).depth ≤ 60 := by
  have := deep_prs S
  simp [keyD, PyData.depth, PyData.depthAll, deep_ints]
  omega
theorem shaped_told (r : Int) (S : List (Int × Int)) (ns : List Int) : SeqAt.shaped (toldD r S ns) = true := by
  have := deep_prs S
  refine shaped_by (by simp [toldD, PyData.canLay0, PyData.canLayAll0, lay_prs, lay_ints]) ?_
  simp [toldD, PyData.depth, PyData.depthAll, deep_ints]
  omega
section
variable {P : Program} {w : World} {K : PySem.W.Frag} {mg : Str → Option Value} {base : Heap} {C CK : Addr}
theorem dp_tupI {H : Hp} {t : Addr} {ns : List Int} (h : SqT K H t (ns.map V.int)) : Dp K H (.ref t) (.tuple (ns.map PyData.int)) := .tup h (dps_ints ns)
theorem cut1v (x : V) (r : List V) : cutV (x :: r) (some 1) none = r := by
  unfold cutV HT.sIx
  simp
theorem cut1 {x : Int} {xs : List Int} : cutV ((x :: xs).map V.int) (some 1) none = xs.map V.int := cut1v _ _
theorem perm_up {S S' : List (Int × Int)} (p : S'.Perm S) (u : (S'.map (·.1)).Pairwise (· ≤ ·)) (v : (S.map (·.1)).Pairwise (· < ·)) : S' = S := by
  have nd : (S.map (·.1)).Nodup := v.imp fun h => by omega
  refine List.Perm.eq_of_pairwise (le := fun a b => a.1 ≤ b.1) (fun a b ha hb h1 h2 => ?_) (List.pairwise_map.mp u) ((List.pairwise_map.mp v).imp fun h => by omega) p
  have ha' := p.mem_iff.mp ha
  obtain ⟨i, hi⟩ := List.mem_iff_getElem?.mp ha'
  obtain ⟨j, hj⟩ := List.mem_iff_getElem?.mp hb
  have e : a.1 = b.1 := by omega
  have k1 : (S.map (·.1))[i]? = some a.1 := by rw [List.getElem?_map, hi]; rfl
  have k2 : (S.map (·.1))[j]? = some a.1 := by rw [List.getElem?_map, hj, e]; rfl
  have ij := (List.getElem?_inj (List.getElem?_eq_some_iff.mp k1).1 nd).mp (k1.trans k2.symm)
  rw [ij, hj] at hi
  exact (Option.some.inj hi).symm
/-! ### elder pledges change nothing -/
def spElder (K : PySem.W.Frag) (C : Addr) : Sp := fun vs H Q _ => ∃ (q t : Addr) (n me g s a b : Int) (c : One), vs = [.ref q, .int g, .int s, .ref t] ∧ q = c.o ∧ OnAt K H C n me .non c ∧ c.bg = .int g ∧ 0 ≤ g ∧ g ≤ 100 ∧ SqT K H t [.int a, .int b] ∧ ∀ H', Same H H' → Q (.bl true) H'
theorem sc_law_elder_heard : FnScope ["one", "number", "seat", "told", "elder"] ["one", "number", "seat", "told"] (defScope s_law_elder_heard) :=
  ⟨rfl, rfl, rfl, by decide +kernel, rfl, by decide +kernel, by decide +kernel⟩
theorem ok_elder {CK : Addr} (F : Fn K mg "_law_elder_heard" s_law_elder_heard) (T : BlT97 mg) (S : CalT K C) (MH : Me P w K mg base C "hear" 6 ["self", "sender", "letter"] (spHear97 K C CK)) (MB : Me P w K mg base C "bears" 2 ["self"] (spBears K C CK)) : Cal P w K mg base "_law_elder_heard" 7 ["one", "number", "seat", "told"] (spElder K C) := by
  obtain ⟨fH, fdH, GH, bH, mH⟩ := MH
  obtain ⟨fB, fdB, GB, bB, mB⟩ := MB
  refine cal_of F sc_law_elder_heard
    (fun _ _ _ _ _ _ us hl => match us, hl with | [_, _, _, _], _ => rfl) ?_ ?_
  · rintro vs H Q E ⟨_, _, _, _, _, _, _, _, _, rfl, _⟩
    rfl
  rintro f cdv A outer s H vs Q E free hr ⟨q, t, n, me, g, s', a, b, c, rfl, rfl, O, eg, g0, g1, qt, k⟩
  have hr2 : Room 2 _ := hr.mono (by decide)
  refine ⟨_, (pss_cons (ps_for PassesOwn.never rfl (pi_range2 (by rfl) T.range (pa_cons pe_int (pa_cons (pv 1) pa_nil))) (pg_name (i := 4) sc_law_elder_heard.nd rfl (Or.inl rfl))
    (pss_one (ps_if (PW.pt (pw_or (pt_cmpR (op_neD (u64 hr)) (pe_meth (pv 0) S.cl mH GH hr bH .nil pass0 (pa_cons (pv 2) (pa_cons (pe_tup (pa_cons pe_str (pa_cons (pv 4) (pa_cons (pe_ix ix_tup (pv 3) pe_int (fun _ _ => rfl)) (pa_cons (pe_ix ix_tup (pv 3) pe_int (fun _ _ => rfl)) (pa_cons pe_int pa_nil)))))) pa_nil))) (pe_lst pa_nil) (nomark _)) (pw_or1 (pt_cmpR op_notN (pe_meth0 (pv 0) S.cl mB GB hr2 bB .nil pass0) pe_non (nomark _)))))
    (pss_one (ps_ret pe_bl))
    pss_nil)))
    (pss_one (ps_ret pe_bl))), ?_⟩
  refine ⟨_, rfl, 1, _, rfl, ⟨by decide, by decide, by omega, by omega⟩, ?_⟩
  refine for_range (lo := 1) (n := _) (fun i σ G => (∃ z5 : Option V, σ = [some (V.ref c.o), some (V.int g), some (V.int s'), some (V.ref t), z5]) ∧ Same H G) ⟨⟨_, rfl⟩, Same.refl H⟩ ?_ ?_
  · rintro i σ G1 hi ⟨⟨z5, rfl⟩, s1⟩
    have O1 := O.same s1
    have A1 := O1.at_
    have qt1 := sqt_same s1 qt
    refine ⟨_, rfl, c.o, c.dx, _, rfl, A1.hp, (A1.no "hear").2, _, rfl, _, rfl, _, rfl, t, _, _, _, rfl, rfl, qt1, atI_nat (j := 0) rfl, _, rfl, t, _, _, _, rfl, rfl, qt1, atI_nat (j := 1) rfl, by show 5 ≤ sizeLine; decide, fun lt hlt => ?_⟩
    have s2 := same_upd (o := .tup [.str "pledge", .int (1 + (i : Int)), .int a, .int b, .int 0]) hlt
    have O2 := O1.same s2
    have A2 := O2.at_
    have A2' := A2
    rw [eg] at A2'
    refine ⟨c.o, c.dx, lt, s', _, rfl, A2.hp, (A2.no "_hear_ask").2, (A2.no "_hear_pledge").2, .inr ⟨_, SqT.of upd_same, c.o, c.dx, lt, c.ro, c.nu, c.pl, me, c.rnd, g, s', 1 + (i : Int), a, b, c.st, c.rs, msF n c.f, c.kvs, c.ps, rfl, A2', O2.pl_, SqT.of upd_same, .inl ⟨by omega, fun z G2 s3 kz => ?_⟩⟩⟩
    refine ⟨Nat.zero_le _, fun e1 he1 => ?_⟩
    have s4 := same_upd (o := .lst []) he1
    refine ⟨.list [], .list [], .lst (SqL.of (s4 _ _ kz)) .nil, .lst (SqL.of upd_same) .nil, by decide, by decide, _, rfl, iteF' (by decide +kernel) ?_⟩
    have s24 := (s2.trans s3).trans s4
    have A4 := (O1.same s24).at_
    refine ⟨_, rfl, c.o, c.dx, _, rfl, A4.hp, (A4.no "bears").2, c.o, c.dx, me, c.st, c.rnd, c.ro, c.nu, .non, c.bg, c.pl, c.rs, _, c.kvs, rfl, A4, .inl ⟨rfl, ?_⟩⟩
    refine ⟨rfl, _, rfl, iteF' rfl ?_⟩
    exact ⟨⟨_, rfl⟩, s1.trans s24⟩
  rintro σ G ⟨⟨z5, rfl⟩, sG⟩
  exact k G sG
/-! ### a key is made -/
def spMade (K : PySem.W.Frag) (C CK : Addr) : Sp := fun vs H Q _ => ∃ (q sv li le : Addr) (n me g : Int) (c : One) (S : List (Int × Int)) (ln : List Int) (zs : List V), vs = [.ref q, .int g, .ref sv, .ref li, .ref le] ∧ q = c.o ∧ Dp K H (.ref sv) (.tuple (S.map pairD)) ∧ H li = some (.lst (ln.map V.int)) ∧ H le = some (.lst zs) ∧ (S.map (·.1)).Pairwise (· < ·) ∧ ln.length ≤ 200 ∧
  ((ln = [] ∧ zs = [] ∧ c.st = "out" ∧ ∃ k dk d l, OnK H C n me (.ref k) c ∧ KeyAt H CK k dk g d l S []) ∨ (ln = [me] ∧ zs = [] ∧ c.st = "in" ∧ ∃ k dk d l, OnK H C n me (.ref k) c ∧ KeyAt H CK k dk g d l S []) ∨ ∃ t rest, ln = t :: rest ∧ t ≠ me ∧ OnK H C n me .non c ∧ DpAll K H zs [toD (keyD g S rest) t]) ∧
  ∀ H', Same H H' → Q (.bl true) H'
theorem sc_law_made : FnScope ["one", "number", "served", "line", "letters"] ["one", "number", "served", "line", "letters"] (defScope s_law_made) :=
  ⟨rfl, rfl, rfl, by decide +kernel, rfl, by decide +kernel, by decide +kernel⟩
theorem ok_made (F : Fn K mg "_law_made" s_law_made) (T : BlT97 mg) (S : CalT K C) (MB : Me P w K mg base C "bears" 2 ["self"] (spBears K C CK)) : Cal P w K mg base "_law_made" 3 ["one", "number", "served", "line", "letters"] (spMade K C CK) := by
  obtain ⟨fB, fdB, GB, bB, mB⟩ := MB
  refine cal_of F sc_law_made
    (fun _ _ _ _ _ _ us hl => match us, hl with | [_, _, _, _, _], _ => rfl) ?_ ?_
  · rintro vs H Q E ⟨_, _, _, _, _, _, _, _, _, _, _, rfl, _⟩
    rfl
  rintro f cdv A outer s H vs Q E free hr ⟨q, sv, li, le, n, me, g, c, SS, ln, zs, rfl, rfl, dsv, kli, kle, up, l200, three, k⟩
  have hr2 : Room 2 _ := hr.mono (by decide)
  refine ⟨_, (pss_cons (ps_if (pt_cmpR (op_eqD (u64 hr)) (pv 3) (pe_lst pa_nil) (nomark _))
    (pss_one (ps_ret (pe_and (pe_cmpR (op_eqD (u64 hr)) (pv 4) (pe_lst pa_nil) (nomark _)) (pe_and (pe_cmpR (op_eqD (u64 hr)) (pe_meth0 (pv 0) S.cl mB GB hr2 bB .nil pass0) (pe_tup (pa_cons (pv 1) (pa_cons (pv 2) (pa_cons (pe_tup pa_nil) pa_nil)))) (nomark _)) (pe_one (pe_cmpR op_eq (pe_fld (pv 0) (by rfl)) pe_str (nomark _)))))))
    pss_nil)
    (pss_cons (ps_if (pt_cmpR op_eq (pe_ix ix_list (pv 3) pe_int (fun _ _ => rfl)) (pe_fld (pv 0) (by rfl)) (nomark _))
    (pss_one (ps_ret (pe_and (pe_cmpR (op_eqD (u64 hr)) (pv 4) (pe_lst pa_nil) (nomark _)) (pe_and (pe_cmpR (op_eqD (u64 hr)) (pe_meth0 (pv 0) S.cl mB GB hr2 bB .nil pass0) (pe_tup (pa_cons (pv 1) (pa_cons (pv 2) (pa_cons (pe_tup pa_nil) pa_nil)))) (nomark _)) (pe_one (pe_cmpR op_eq (pe_fld (pv 0) (by rfl)) pe_str (nomark _)))))))
    pss_nil)
    (pss_one (ps_ret (pe_and (pe_cmpR (op_eqD (u64 hr)) (pv 4) (pe_lst (pa_cons (pe_tup (pa_cons (pe_ix ix_list (pv 3) pe_int (fun _ _ => rfl)) (pa_cons (pe_tup (pa_cons pe_str (pa_cons (pv 1) (pa_cons (pv 2) (pa_cons (pe_callTy call_tuple_of (by rfl) T.tuple (by decide +kernel) (pa_cons (pe_slice sl_list (pv 3) (po_some pe_int) po_none) pa_nil)) pa_nil))))) pa_nil))) pa_nil)) (nomark _)) (pe_one (pe_cmpR op_isN (pe_meth0 (pv 0) S.cl mB GB hr2 bB .nil pass0) pe_non (nomark _)))))))), ?_⟩
  refine ⟨_, rfl, Nat.zero_le _, fun e he => ?_⟩
  have s1 := same_upd (o := .lst []) he
  refine ⟨.list (ln.map PyData.int), .list [], dp_ints (s1 _ _ kli), .lst (SqL.of upd_same) .nil, shaped_ints _, by decide, _, rfl, ?_⟩
  rw [eqv_nilI]
  have kli1 := s1 _ _ kli
  have kle1 := s1 _ _ kle
  have dsv1 := dp_same s1 _ _ dsv
  rcases three with ⟨rfl, rfl, hst, kk, dk, d, l, O, KA⟩ | ⟨rfl, rfl, hst, kk, dk, d, l, O, KA⟩ | ⟨t, rest, rfl, ne, O, dz⟩
  · refine iteT' (decide_eq_true rfl) ?_
    refine ⟨_, rfl, Nat.zero_le _, fun e2 he2 => ?_⟩
    have s2 := same_upd (o := .lst []) he2
    refine ⟨.list [], .list [], .lst (SqL.of (s2 _ _ kle1)) .nil, .lst (SqL.of upd_same) .nil, by decide, by decide, ?_⟩
    refine ⟨_, rfl, iteT' (by decide +kernel) ?_⟩
    have O2 := (O.same s1).same s2
    have K2 := (KA.same s1).same s2
    have A2 := O2.at_
    refine ⟨_, rfl, c.o, c.dx, _, rfl, A2.hp, (A2.no "bears").2, c.o, c.dx, me, c.st, c.rnd, c.ro, c.nu, .ref kk, c.bg, c.pl, c.rs, _, c.kvs, rfl, A2, .inr ⟨kk, dk, g, d, l, SS, [], rfl, K2, fun tq S' H3 s3 pS uS dT => ?_⟩⟩
    have eS := perm_up pS uS up
    subst eS
    refine ⟨_, rfl, _, rfl, Nat.zero_le _, fun e3 he3 => ?_⟩
    have t3s := same_upd (o := .tup []) he3
    refine ⟨by show 3 ≤ sizeLine; decide, fun u7 hu7 => ?_⟩
    have t4s := same_upd (o := .tup [.int g, .ref sv, .ref e3]) hu7
    have t34 := t3s.trans t4s
    have s24 := (s2.trans s3).trans t34
    have shp3 := shaped_told g S' []
    refine ⟨toldD g S' [], toldD g S' [], dp_same t34 _ _ dT, .tup (SqT.of upd_same) (.cons (.int g) (.cons (dp_same s24 _ _ dsv1) (.cons (.tup (SqT.of (t4s _ _ upd_same)) .nil) .nil))), shp3, shp3, ?_⟩
    rw [eqv_shaped shp3]
    refine ⟨_, rfl, iteT ?_⟩
    have A5 := ((O.same s1).same s24).at_
    refine ⟨_, rfl, c.o, C, c.dx, _, _, rfl, A5.hp, S.cl, S.state, caF_stt _ _ _ _ _ _ _ _ _, rfl, ?_⟩
    rw [hst, dec_str, show decide (("out" : Str) = "out") = true from decide_eq_true rfl]
    exact k _ (s1.trans s24)
  · refine iteF' (decide_eq_false (fun z => nomatch z)) ?_
    have A1 := (O.same s1).at_
    refine ⟨_, rfl, li, _, _, .int me, rfl, rfl, SqL.of kli1, atI_nat (j := 0) rfl, _, rfl, c.o, C, c.dx, _, _, rfl, A1.hp, S.cl, S.me, caF_me _ _ _ _ _ _ _ _ _, rfl, _, rfl, ?_⟩
    rw [dec_ii]
    refine iteT' (decide_eq_true rfl) ?_
    refine ⟨_, rfl, Nat.zero_le _, fun e2 he2 => ?_⟩
    have s2 := same_upd (o := .lst []) he2
    refine ⟨.list [], .list [], .lst (SqL.of (s2 _ _ kle1)) .nil, .lst (SqL.of upd_same) .nil, by decide, by decide, ?_⟩
    refine ⟨_, rfl, iteT' (by decide +kernel) ?_⟩
    have O2 := (O.same s1).same s2
    have K2 := (KA.same s1).same s2
    have A2 := O2.at_
    refine ⟨_, rfl, c.o, c.dx, _, rfl, A2.hp, (A2.no "bears").2, c.o, c.dx, me, c.st, c.rnd, c.ro, c.nu, .ref kk, c.bg, c.pl, c.rs, _, c.kvs, rfl, A2, .inr ⟨kk, dk, g, d, l, SS, [], rfl, K2, fun tq S' H3 s3 pS uS dT => ?_⟩⟩
    have eS := perm_up pS uS up
    subst eS
    refine ⟨_, rfl, _, rfl, Nat.zero_le _, fun e3 he3 => ?_⟩
    have t3s := same_upd (o := .tup []) he3
    refine ⟨by show 3 ≤ sizeLine; decide, fun u7 hu7 => ?_⟩
    have t4s := same_upd (o := .tup [.int g, .ref sv, .ref e3]) hu7
    have t34 := t3s.trans t4s
    have s24 := (s2.trans s3).trans t34
    have shp3 := shaped_told g S' []
    refine ⟨toldD g S' [], toldD g S' [], dp_same t34 _ _ dT, .tup (SqT.of upd_same) (.cons (.int g) (.cons (dp_same s24 _ _ dsv1) (.cons (.tup (SqT.of (t4s _ _ upd_same)) .nil) .nil))), shp3, shp3, ?_⟩
    rw [eqv_shaped shp3]
    refine ⟨_, rfl, iteT ?_⟩
    have A5 := ((O.same s1).same s24).at_
    refine ⟨_, rfl, c.o, C, c.dx, _, _, rfl, A5.hp, S.cl, S.state, caF_stt _ _ _ _ _ _ _ _ _, rfl, ?_⟩
    rw [hst, dec_str, show decide (("in" : Str) = "in") = true from decide_eq_true rfl]
    exact k _ (s1.trans s24)
  · refine iteF' (decide_eq_false (fun z => nomatch z)) ?_
    have A1 := (O.same s1).at_
    refine ⟨_, rfl, li, _, _, .int t, rfl, rfl, SqL.of kli1, atI_nat (j := 0) rfl, _, rfl, c.o, C, c.dx, _, _, rfl, A1.hp, S.cl, S.me, caF_me _ _ _ _ _ _ _ _ _, rfl, _, rfl, ?_⟩
    rw [dec_ii]
    refine iteF' (decide_eq_false ne) ?_
    refine ⟨_, rfl, _, rfl, li, _, _, .int t, rfl, rfl, SqL.of kli1, atI_nat (j := 0) rfl, _, rfl, _, rfl, _, rfl, _, rfl, li, _, rfl, SqL.of kli1, fun x1 hx1 => ?_⟩
    rw [cut1]
    have v1s := same_upd (o := .lst (rest.map V.int)) hx1
    refine ⟨x1, _, rfl, .inl ⟨SqL.of upd_same, fun x2 hx2 => ?_⟩⟩
    have v2s := same_upd (o := .tup (rest.map V.int)) hx2
    refine ⟨by show 4 ≤ sizeLine; decide, fun x3 hx3 => ?_⟩
    have v3s := same_upd (o := .tup [.str "key", .int g, .ref sv, .ref x2]) hx3
    refine ⟨by show 2 ≤ sizeLine; decide, fun x4 hx4 => ?_⟩
    have v4s := same_upd (o := .tup [.int t, .ref x3]) hx4
    refine ⟨by show 1 ≤ sizeLine; decide, fun x5 hx5 => ?_⟩
    have v5s := same_upd (o := .lst [.ref x4]) hx5
    have v35 := (v3s.trans v4s).trans v5s
    have v15 := (v1s.trans v2s).trans v35
    have shp2 : SeqAt.shaped (.list [toD (keyD g SS rest) t]) = true := shaped_tos (lay_key g SS rest) (deep_key _ _ _) [t]
    have s15 := s1.trans v15
    refine ⟨.list [toD (keyD g SS rest) t], .list [toD (keyD g SS rest) t], .lst (SqL.of (v15 _ _ kle1)) (dps_same s15 _ _ dz), .lst (SqL.of upd_same) (.cons (.tup (SqT.of (v5s _ _ upd_same)) (.cons (.int t) (.cons (.tup (SqT.of ((v4s.trans v5s) _ _ upd_same)) (.cons (.str _) (.cons (.int _) (.cons (dp_same v15 _ _ dsv1) (.cons (dp_tupI (SqT.of (v35 _ _ upd_same))) .nil))))) .nil))) .nil), shp2, shp2, ?_⟩
    rw [eqv_shaped shp2]
    refine ⟨_, rfl, iteT ?_⟩
    have A5 := (O.same s15).at_
    refine ⟨_, rfl, c.o, c.dx, _, rfl, A5.hp, (A5.no "bears").2, c.o, c.dx, me, c.st, c.rnd, c.ro, c.nu, .non, c.bg, c.pl, c.rs, _, c.kvs, rfl, A5, .inl ⟨rfl, rfl, k _ s15⟩⟩
end

end G0
namespace G0
open PySem PySem.Spec PyProof.Rows L2 NdefX ClX
set_option maxHeartbeats 8000000
theorem call_tuple_ofK {X : Cx} (K : PySem.W.Frag) (hK : X.K = K) : CallR X (.type "tuple") (fun xs H Q => ∃ p ys, xs = [.ref p] ∧ ((SqL K H p ys ∧ ∀ l, H l = none → Q (.ref l) (upd H l (.tup ys))) ∨ (SqT K H p ys ∧ Q (.ref p) H))) := by
  subst hK
  exact call_tuple_of
theorem erase_oth {k : Int} : ∀ {ns : List Int} {j : Nat}, ns.Nodup → ns[j]? = some k → ns.eraseIdx j = othR ns k
  | [], _, _, h => by simp at h
  | x :: ns, 0, nd, h => by
    simp at h
    subst h
    have nd := List.nodup_cons.mp nd
    show ns = othR (x :: ns) x
    unfold othR
    rw [List.filter_cons, if_neg (by simp)]
    exact (List.filter_eq_self.mpr fun m hm => by
      have : m ≠ x := fun e => nd.1 (by rw [← e]; exact hm)
      simp [this]).symm
  | x :: ns, j + 1, nd, h => by
    have nd := List.nodup_cons.mp nd
    have h : ns[j]? = some k := by simpa using h
    have ne : x ≠ k := fun e => nd.1 (by rw [e]; exact List.mem_of_getElem? h)
    show x :: ns.eraseIdx j = othR (x :: ns) k
    rw [erase_oth nd.2 h]
    unfold othR
    rw [List.filter_cons, if_pos (by simp [ne])]
section
variable {P : Program} {w : World} {K : PySem.W.Frag} {mg : Str → Option Value} {base : Heap} {C CK : Addr}
/-! ### all the dead are gone -/
def rsJ (n : Int) (od : List Int) (j : Nat) : List Int := (rangeI n).filter fun m => !decide (m ∈ od.take j)
theorem rsJ_mem {n : Int} {od : List Int} {j : Nat} {m : Int} : m ∈ rsJ n od j ↔ (0 ≤ m ∧ m < n) ∧ m ∉ od.take j := by
  unfold rsJ
  rw [List.mem_filter, rangeI_mem]
  simp
theorem rsJ_nd {n : Int} {od : List Int} {j : Nat} : (rsJ n od j).Nodup := (rangeI_nd n).filter _
theorem rsJ_len {n : Int} {od : List Int} {j : Nat} : (rsJ n od j).length ≤ n.toNat := by
  have := List.length_filter_le (fun m => !decide (m ∈ od.take j)) (rangeI n)
  rw [rangeI_len] at this
  exact this
theorem rsJ_up {n : Int} {od : List Int} {j : Nat} : (rsJ n od j).Pairwise (· < ·) := rangeI_up.filter _
theorem rsJ_next {n : Int} {od : List Int} {j : Nat} {s : Int} (h : od[j]? = some s) : rsJ n od (j + 1) = othR (rsJ n od j) s := by
  unfold rsJ othR
  rw [List.filter_filter]
  refine List.filter_congr fun m _ => ?_
  rw [List.take_succ, h]
  by_cases e : m = s
  · subst e; simp
  · simp [e]
theorem lay_round (r : Int) (rs : List Int) : (roundD r rs).canLay0 = true := by
  simp [roundD, PyData.canLay0, PyData.canLayAll0, lay_ints]
  decide +kernel
theorem deep_round (r : Int) (rs : List Int) : (roundD r rs).depth ≤ 60 := by
  simp [roundD, PyData.depth, PyData.depthAll, deep_ints]
theorem line1 {me o : Int} {ms : List Int} : lineUp me [me] ms [(me, o)] [] = if o < ms.getD me.toNat 0 then [me] else [] := by
  have e1 : keepL [] [me] = [] := rfl
  have e2 : ordR [me] me = [me] := by
    unfold ordR
    simp
  have e3 : dueS [(me, o)] me (ms.getD me.toNat 0) = decide (o < ms.getD me.toNat 0) := by
    unfold dueS
    rw [show ([(me, o)].map entI) = [(Sum.inl me, V.int o)] from rfl, valV_pos rfl]
  unfold lineUp
  rw [e1, e2, List.nil_append, List.filter_cons, e3]
  by_cases c : o < ms.getD me.toNat 0
  · simp [c]
  · simp [c]
def othO (c : One) (me : Int) : Int := c.f me - askN c.st
/-- what stands after j of them are gone -/
structure MkS (K : PySem.W.Frag) (G : Hp) (C : Addr) (n me : Int) (c : One) (od : List Int) (j : Nat) (many : Int) (cj : One) : Prop where
  eo : cj.o = c.o
  en : cj.nu = c.nu
  es : cj.st = c.st
  ef : cj.f = c.f
  er : cj.rs = rsJ n od j
  em : cj.rnd = many
  on : OnAt K G C n me .non cj
  bg : (many = 0 ∧ cj.bg = .non ∧ cj.ps = []) ∨ (0 < many ∧ cj.bg = .int many)
  ps : j = od.length → 0 < many → cj.ps = [(me, othO c me)]
  hd : (∃ ys, rsJ n od j = me :: ys) → 0 < j → 0 < many
  hm : 0 < many → ∃ ys, rsJ n od j = me :: ys
  nal : j = od.length → rsJ n od j ≠ [me]
theorem MkS.same {G G' : Hp} {n me : Int} {c : One} {od : List Int} {j : Nat} {many : Int} {cj : One} (h : MkS K G C n me c od j many cj) (s : Same G G') : MkS K G' C n me c od j many cj := { h with on := h.on.same s }
structure MkE (G : Hp) (C CK : Addr) (n me : Int) (c : One) (many : Int) (cj : One) (k dk d l : Addr) : Prop where
  eo : cj.o = c.o
  en : cj.nu = c.nu
  es : cj.st = if c.st = ("asking" : Str) then ("in" : Str) else c.st
  ef : cj.f = c.f
  er : cj.rs = [me]
  em : cj.rnd = many
  on : OnK G C n me (.ref k) cj
  bg : cj.bg = .int many
  ps : cj.ps.map (·.1) = [me]
  key : KeyAt G CK k dk many d l [(me, othO c me)] []
def spMarks (K : PySem.W.Frag) (C CK : Addr) : Sp := fun vs H Q _ => ∃ (q oa la : Addr) (n me : Int) (c : One) (od lt : List Int), vs = [.ref q, .ref oa, .ref la] ∧ q = c.o ∧ OnAt K H C n me .non c ∧ n ≤ 60 ∧ 0 ≤ me ∧ me < n ∧ c.rs = rangeI n ∧ c.rnd = 0 ∧ c.bg = .non ∧ c.ps = [] ∧
  H oa = some (.lst (od.map V.int)) ∧ oa ≠ c.nu ∧ H la = some (.lst (lt.map V.int)) ∧ la ≠ c.nu ∧ od.Nodup ∧ od ≠ [] ∧ (∀ m ∈ od, 0 ≤ m ∧ m < n ∧ m ≠ me) ∧ (∀ m, 0 ≤ m → m < n → m ∉ od → me ≤ m) ∧
  (lt = [] ∨ ∃ s u a, lt = [s, u, a] ∧ 0 ≤ s ∧ s < n ∧ s ≠ me ∧ s ∉ od ∧ u ≤ c.f s) ∧
  ((rsJ n od od.length ≠ [me] ∧ ∀ g cj H', 0 < g → g ≤ 100 → MkS K H' C n me c od od.length g cj → FrN [c.nu] H H' → Q (.int g) H') ∨
    (rsJ n od od.length = [me] ∧ lt = [] ∧ ∀ g cj k dk d l H', 0 < g → g ≤ 100 → MkE H' C CK n me c g cj k dk d l → FrN [c.nu] H H' → Q (.int g) H'))
theorem sc_law_marks_heard : FnScope ["one", "order", "late", "roster", "many", "seat", "due", "to"] ["one", "order", "late"] (defScope s_law_marks_heard) :=
  ⟨rfl, rfl, rfl, by decide +kernel, rfl, by decide +kernel, by decide +kernel⟩
theorem ok_marks (F : Fn K mg "_law_marks_heard" s_law_marks_heard) (T : BlT97 mg) (S : CalT K C) (MH : Me P w K mg base C "hear" 6 ["self", "sender", "letter"] (spHear97 K C CK)) (MB : Me P w K mg base C "bears" 2 ["self"] (spBears K C CK)) (MG : Me P w K mg base C "gone" 7 ["self", "seat"] (spGone K C CK)) (MW : Me P w K mg base C "awaits" 1 ["self"] (spAw K C)) (MR : Me P w K mg base C "roster" 1 ["self"] (spRos C)) :
    Cal P w K mg base "_law_marks_heard" 8 ["one", "order", "late"] (spMarks K C CK) := by
  obtain ⟨fH, fdH, GH, bH, mH⟩ := MH
  obtain ⟨fB, fdB, GB, bB, mB⟩ := MB
  obtain ⟨fG, fdG, GG, bG, mG⟩ := MG
  obtain ⟨fW, fdW, GW, bW, mW⟩ := MW
  obtain ⟨fR, fdR, GR, bR, mR⟩ := MR
  refine cal_of F sc_law_marks_heard
    (fun _ _ _ _ _ _ us hl => match us, hl with | [_, _, _], _ => rfl) ?_ ?_
  · rintro vs H Q E ⟨_, _, _, _, _, _, _, _, rfl, _⟩
    rfl
  rintro f cdv A outer s H vs Q E free hr ⟨q, oa, la, n, me, c, od, lt, rfl, rfl, O, n60, m0, m1, ers, ernd, ebg, eps, ko, no, kl, nl, ndD, neD, bD, least, hlt, fin⟩
  have hr6 : Room 6 _ := hr.mono (by decide)
  have hr2 : Room 2 _ := hr.mono (by decide)
  have hr1 : Room 1 _ := hr.mono (by decide)
-- [(0, 'one'), (1, 'order'), (2, 'late'), (3, 'roster'), (4, 'many'), (5, 'seat'), (6, 'due'), (7, 'to')]
  refine ⟨_, (pss_cons (ps_set (i := 3) sc_law_marks_heard.nd rfl (Or.inr rfl) (pe_meth0 (pv 0) S.cl mR GR hr1 bR .nil pass0))
    (pss_cons (ps_set (i := 4) sc_law_marks_heard.nd rfl (Or.inr rfl) pe_int)
    (pss_cons (ps_for PassesOwn.never rfl (pi_list (pv 1)) (pg_name (i := 5) sc_law_marks_heard.nd rfl (Or.inl rfl))
    (pss_cons (ps_expr (pe_bm PySem.F.plainAttrs_list PySem.F.slot_list_remove PySem.F.type_list_remove mt_remove (pv 3) (pa_cons (pv 5) pa_nil)))
    (pss_cons (ps_set (i := 6) sc_law_marks_heard.nd rfl (Or.inl rfl) (pe_lst pa_nil))
    (pss_cons (ps_if (pt_cmpR op_eq (pe_ix ix_list (pv 3) pe_int (fun _ _ => rfl)) (pe_fld (pv 0) (by rfl)) (nomark _))
    (pss_cons (ps_set (i := 4) sc_law_marks_heard.nd rfl (Or.inr rfl) (pe_op op_add (pv 4) pe_int))
    (pss_one (ps_setLc (i := 6) (own := [("to", 7)]) (g := gName 7)  (by rfl) sc_law_marks_heard.nd rfl rfl (sw_true rfl rfl rfl (by decide +kernel)) (pi_list (pv 3)) (blkOk_by (N := ["one", "order", "late", "roster", "many", "seat", "due", "to"]) (sc := defScope s_law_marks_heard) (by decide +kernel)) (fun _ _ _ _ _ => pg_name (i := 7) sc_law_marks_heard.nd rfl (Or.inl rfl)) (fun _ _ _ _ _ => pts_one (pt_cmpR op_ne (pv 7) (pe_fldK K (pv 0)) (nomark _))) (fun _ _ _ _ _ => (pe_tup (pa_cons (pv 7) (pa_cons (pe_tup (pa_cons pe_str (pa_cons (pv 4) (pa_cons (pe_callTy (T := "tuple") (call_tuple_ofK K rfl) (by rfl) T.tuple (by decide +kernel) (pa_cons (pv 3) pa_nil)) pa_nil)))) pa_nil)))))))
    pss_nil)
    (pss_cons (ps_if (PW.pt (pw_or (pt_cmpR (op_neD (u64 hr)) (pe_meth (pv 0) S.cl mG GG hr bG .nil pass0 (pa_cons (pv 5) pa_nil)) (pv 6) (nomark _)) (pw_or (pt_cmpR (op_neD (u64 hr)) (pe_meth0 (pv 0) S.cl mR GR hr1 bR .nil pass0) (pv 3) (nomark _)) (pw_or1 (pt_cmpR op_ne (pe_fld (pv 0) (by rfl)) (pv 4) (nomark _))))))
    (pss_one (ps_ret pe_non))
    pss_nil)
    (pss_one (ps_if (PW.pt (pw_and (pt_cmpR op_gt (pv 4) pe_int (nomark _)) (pw_and (pt_cmpR (op_neD (u64 hr)) (pv 2) (pe_lst pa_nil) (nomark _)) (pw_and1 (pt_cmpR op_ne (pv 5) (pe_ix ix_list (pv 1) (pe_op op_sub (pe_callB call_len_seq (by rfl) T.len (by decide +kernel) (pa_cons (pv 1) pa_nil)) pe_int) (fun _ _ => rfl)) (nomark _))))))
    (pss_cons (ps_if (PW.pt (pw_or (pt_cmpR (op_neD (u64 hr)) (pe_meth (pv 0) S.cl mH GH hr6 bH .nil pass0 (pa_cons (pe_ix ix_list (pv 2) pe_int (fun _ _ => rfl)) (pa_cons (pe_tup (pa_cons pe_str (pa_cons (pv 4) (pa_cons (pe_ix ix_list (pv 2) pe_int (fun _ _ => rfl)) (pa_cons (pe_ix ix_list (pv 2) pe_int (fun _ _ => rfl)) (pa_cons pe_int pa_nil)))))) pa_nil))) (pe_lst pa_nil) (nomark _)) (pw_or1 (pt_cmpR op_notN (pe_meth0 (pv 0) S.cl mB GB hr2 bB .nil pass0) pe_non (nomark _)))))
    (pss_one (ps_ret pe_non))
    pss_nil)
    (pss_one (ps_if (pt_cmpR u_in (pe_ix ix_list (pv 2) pe_int (fun _ _ => rfl)) (pe_meth0 (pv 0) S.cl mW GW hr1 bW .nil pass0) (by rfl))
    (pss_one (ps_ret pe_non))
    pss_nil)))
    pss_nil)))))))
    (pss_one (ps_ret (pv 4)))))), ?_⟩
  have A0 := O.at_
  refine ⟨_, rfl, c.o, c.dx, _, rfl, A0.hp, (A0.no "roster").2, c.o, c.dx, me, c.st, c.rnd, c.ro, c.nu, .non, c.bg, c.pl, c.rs, _, c.kvs, rfl, A0, fun ra hra => ?_⟩
  have sr := same_upd (o := .lst (c.rs.map V.int)) hra
  have raN : ra ≠ c.nu := (ne_of_none A0.hn hra).symm
  have ko1 := sr _ _ ko
  have kl1 := sr _ _ kl
  have rao : oa ≠ ra := ne_of_none ko hra
  have ral : la ≠ ra := ne_of_none kl hra
  have lod : od.length ≤ 60 := by
    have p : od.Perm ((rangeI n).filter fun m => decide (m ∈ od)) := (List.perm_ext_iff_of_nodup ndD ((rangeI_nd n).filter _)).mpr fun m => by
      rw [List.mem_filter, rangeI_mem, decide_eq_true_eq]
      exact ⟨fun hm => ⟨⟨(bD m hm).1, (bD m hm).2.1⟩, hm⟩, fun hm => hm.2⟩
    have l1 := List.length_filter_le (fun m => decide (m ∈ od)) (rangeI n)
    rw [← p.length_eq, rangeI_len] at l1
    omega
  have rs0 : rsJ n od 0 = rangeI n := List.filter_eq_self.mpr fun m _ => by simp
  have meJ : ∀ j, me ∈ rsJ n od j := fun j => rsJ_mem.mpr ⟨⟨m0, m1⟩, fun h => (bD me (List.mem_of_mem_take h)).2.2 rfl⟩
  obtain ⟨G0, e0⟩ : ∃ G0, G0 = upd H ra (.lst (c.rs.map V.int)) := ⟨_, rfl⟩
  have kr0 : G0 ra = some (.lst ((rsJ n od 0).map V.int)) := by rw [e0, rs0, ← ers]; exact upd_same
  rw [← e0] at sr ko1 kl1
  rw [← e0]
  clear e0
  refine ⟨_, rfl, oa, rfl, ⟨_, SqL.of ko1⟩, ?_⟩
  refine for_list (K := K) (a := oa) (xs := od.map V.int) (fun j σ G => ∃ (many : Int) (z5 z6 z7 : Option V), σ = [some (V.ref c.o), some (V.ref oa), some (V.ref la), some (V.ref ra), some (V.int many), z5, z6, z7] ∧ 0 ≤ many ∧ many ≤ (j : Int) ∧ FrN [ra, c.nu] H G ∧ G ra = some (.lst ((rsJ n od j).map V.int)) ∧
    ((∃ cj, MkS K G C n me c od j many cj ∧ cj.ro ≠ ra) ∨ (rsJ n od od.length = [me] ∧ j = od.length ∧ 0 < many ∧ ∃ cj k dk d l, MkE G C CK n me c many cj k dk d l))) ⟨0, _, _, _, rfl, Int.le_refl _, Int.le_refl _, Same.frn sr, kr0, .inl ⟨c, ⟨rfl, rfl, rfl, rfl, by rw [rs0]; exact ers, ernd, O.same sr, .inl ⟨rfl, ebg, eps⟩, fun _ z => absurd z (by decide), fun _ z => absurd z (Nat.lt_irrefl 0), fun z => absurd z (by decide), fun z => absurd (List.length_eq_zero_iff.mp z.symm) neD⟩, (ne_of_none A0.hr hra)⟩⟩
    (fun j σ G _ h => SqL.of (by obtain ⟨_, _, _, _, _, _, _, fG, _⟩ := h; exact lst_frn fG ko (by simp [rao, no]))) ?_ ?_
  · rintro j x σ G hx ⟨many, z5, z6, z7, rfl, mn0, mnj, fG, kr, st⟩
    obtain ⟨s', hs, rfl⟩ := ints_at' hx
    have jl := (List.getElem?_eq_some_iff.mp hs).1
    obtain ⟨cj, M, rar⟩ : ∃ cj, MkS K G C n me c od j many cj ∧ cj.ro ≠ ra := by
      rcases st with h | ⟨_, e, _⟩
      · exact h
      · omega
    clear st
    obtain ⟨s0, s1, sne⟩ := bD s' (List.mem_of_getElem? hs)
    have snt : s' ∉ od.take j := fun z => by
      obtain ⟨j2, lj, ej⟩ := List.mem_take_iff_getElem.mp z
      have h1 : od[j2]? = some s' := by rw [List.getElem?_eq_getElem (by omega), ej]
      have := (List.getElem?_inj (by omega) ndD).mp (h1.trans hs.symm)
      omega
    have sJ : s' ∈ rsJ n od j := rsJ_mem.mpr ⟨⟨s0, s1⟩, snt⟩
    obtain ⟨i, hi⟩ := List.mem_iff_getElem?.mp sJ
    have li := (List.getElem?_eq_some_iff.mp hi).1
    have nx := rsJ_next (n := n) hs
    have ex : (rsJ n od j).eraseIdx i = rsJ n od (j + 1) := by rw [nx]; exact erase_oth rsJ_nd hi
    refine ⟨_, rfl, .inl ⟨rfl, _, SqL.of kr⟩, _, rfl, ra, _, s', i, rfl, rfl, kr, hi, fun m hm z => ?_, ?_⟩
    · have := (List.getElem?_inj (by omega) rsJ_nd).mp (z.trans hi.symm)
      omega
    rw [ex]
    have lJ := rsJ_len (n := n) (od := od) (j := j + 1)
    obtain ⟨y, ys, ey⟩ : ∃ y ys, rsJ n od (j + 1) = y :: ys := by
      cases h : rsJ n od (j + 1) with
      | nil => exact absurd (meJ (j + 1)) (by rw [h]; exact List.not_mem_nil)
      | cons y ys => exact ⟨y, ys, rfl⟩
    have O1 : OnAt K (upd G ra (.lst ((rsJ n od (j + 1)).map V.int))) C n me .non cj := by
      have A := M.on.at_
      have lst : ∀ {b : Addr} {o : HO}, G b = some o → b ≠ ra → upd G ra (.lst ((rsJ n od (j + 1)).map V.int)) b = some o := fun e ne => (upd_ne ne).trans e
      exact ⟨⟨lst A.hp (ne_of A.hp kr (by intro z; cases z)), lst A.hr rar, lst A.hn (by rw [M.en]; exact raN.symm), lst A.hpl (ne_of A.hpl kr (by intro z; cases z))⟩, M.on.pl_.chgs (S := []) (sqt_chgs (S := [ra]) (fun b o nb e => (upd_ne (by simpa using nb)).trans e) fun a ha => by rw [List.mem_singleton.mp ha]; exact .inl ⟨_, kr⟩), M.on.rn⟩
    have f1 : FrN [ra, c.nu] H (upd G ra (.lst ((rsJ n od (j + 1)).map V.int))) := fG.trans fun a o e _ _ n3 => (upd_ne (fun z => n3 (by rw [z, kr] at e; exact ⟨_, (Option.some.inj e).symm⟩) (by rw [z]; simp))).trans e
    have kr1 : upd G ra (.lst ((rsJ n od (j + 1)).map V.int)) ra = some (.lst ((rsJ n od (j + 1)).map V.int)) := upd_same
    obtain ⟨G1, e1⟩ : ∃ G1, G1 = upd G ra (.lst ((rsJ n od (j + 1)).map V.int)) := ⟨_, rfl⟩
    rw [← e1] at O1 f1 kr1
    rw [← e1]
    clear e1
    refine ⟨Nat.zero_le _, fun d0 hd0 => ?_⟩
    have s2 := same_upd (o := .lst []) hd0
    have O2 := O1.same s2
    have A2 := O2.at_
    have kr2 := s2 _ _ kr1
    rw [ey] at kr2
    refine ⟨_, rfl, ra, _, _, .int y, rfl, rfl, SqL.of kr2, atI_nat (j := 0) rfl, _, rfl, c.o, C, cj.dx, _, _, rfl, by rw [← M.eo]; exact A2.hp, S.cl, S.me, caF_me _ _ _ _ _ _ _ _ _, rfl, _, rfl, ?_⟩
    rw [dec_ii]
    have eR : othR cj.rs s' = rsJ n od (j + 1) := by rw [M.er, nx]
    have eyR : othR cj.rs s' = y :: ys := eR.trans ey
    have lms : ((msF n cj.f).length : Int) = n := by rw [msF_len]; omega
    have ndr : cj.rs.Nodup := by rw [M.er]; exact rsJ_nd
    have bnr : ∀ m ∈ cj.rs, 0 ≤ m ∧ m < (msF n cj.f).length := fun m hm => by
      rw [M.er] at hm
      have := (rsJ_mem.mp hm).1
      omega
    have lnr : cj.rs.length ≤ 60 := by
      rw [M.er]
      have := rsJ_len (n := n) (od := od) (j := j)
      omega
    rw [← ey] at kr2
    have nuj : cj.nu ≠ ra := by rw [M.en]; exact raN.symm
    rw [← M.eo]
    refine ite2 (fun cy => ?_) (fun cy => ?_)
    · have ym : y = me := by simpa using cy
      refine ⟨_, rfl, _, _, rfl, rfl, ?_⟩
      refine ⟨_, rfl, ra, rfl, ⟨_, SqL.of kr2⟩, fun D hD => ?_⟩
      refine lc_dataI (K := K) (a := ra) (ns := rsJ n od (j + 1)) (fun x => !decide (x = me)) (toD (roundD (many + 1) (rsJ n od (j + 1)))) (by omega) (fun x _ => noL_to (by simp [roundD, noL, noLs, noLs_intsD]) x) hD (SqL.of kr2) (fun i x G Y B hx sG h1 h2 => ?_) (fun G5 zs5 s5 kD5 d5 => ?_)
      · have A5 := A2.same sG
        have kr5 := sG _ _ kr2
        refine ⟨rfl, _, rfl, _, rfl, cj.o, C, cj.dx, _, _, rfl, A5.hp, S.cl, S.me, caF_me _ _ _ _ _ _ _ _ _, rfl, _, rfl, ?_⟩
        rw [dec_ii]
        cases c7 : (!decide (x = me)) with
        | true =>
          refine iteT ?_
          refine ⟨_, rfl, _, rfl, _, rfl, ra, _, rfl, .inl ⟨SqL.of kr5, fun t1 ht1 => ?_⟩⟩
          have u1 := same_upd (o := .tup ((rsJ n od (j + 1)).map V.int)) ht1
          refine ⟨by show 3 ≤ sizeLine; decide, fun t2 ht2 => ?_⟩
          have u2 := same_upd (o := .tup [.str "round", .int (many + 1), .ref t1]) ht2
          refine ⟨by show 2 ≤ sizeLine; decide, fun t3 ht3 => ?_⟩
          have u3 := same_upd (o := .tup [.int x, .ref t2]) ht3
          exact h1 c7 (.ref t3) _ ((u1.trans u2).trans u3) (.tup (SqT.of upd_same) (.cons (.int x) (.cons (.tup (SqT.of (u3 _ _ upd_same)) (.cons (.str _) (.cons (.int _) (.cons (.tup (SqT.of ((u2.trans u3) _ _ upd_same)) (dps_ints _)) .nil)))) .nil)))
        | false => exact iteF (h2 c7)
      have d5 : DpAll K G5 zs5 ((othR (rsJ n od (j + 1)) me).map (toD (roundD (many + 1) (rsJ n od (j + 1))))) := d5
      have O5 := O2.same s5
      have A5 := O5.at_
      have kr5 := s5 _ _ kr2
      have DN : D ≠ cj.nu := (ne_of_none A2.hn hD).symm
      have f5 := (f1.trans (Same.frn s2)).trans (Same.frn s5)
      have toN : ∀ {G7 G8 : Hp}, FrN [cj.nu] G7 G8 → FrN [ra, c.nu] G7 G8 := fun f a o e n1 n2 n3 => f a o e n1 n2 fun x m => n3 x (by rw [List.mem_singleton.mp m, M.en]; simp)
      have nls : noLs ((othR (rsJ n od (j + 1)) me).map (toD (roundD (many + 1) (rsJ n od (j + 1))))) = true := noLs_of fun d hd => by
        obtain ⟨y, _, rfl⟩ := List.mem_map.mp hd
        exact noL_to (by simp [roundD, noL, noLs, noLs_intsD]) y
      refine ⟨_, rfl, cj.o, cj.dx, _, rfl, A5.hp, (A5.no "gone").2, _, rfl, cj.o, cj.dx, cj.ro, cj.nu, cj.pl, me, cj.rnd, s', cj.st, cj.bg, cj.rs, msF n cj.f, cj.kvs, cj.ps, y, ys, rfl, A5, O5.pl_, m0, by omega, ndr, bnr, lnr, eyR, fun ne => absurd ym ne, fun _ ro' H3 h0 ch => ?_⟩
      have rr : ro' ≠ ra := (ne_of_none kr5 h0).symm
      have rn' : ro' ≠ cj.nu := (ne_of_none A5.hn h0).symm
      have f3 : FrN [cj.nu] G5 H3 := O5.frn ch fun a ha => .inl (List.mem_singleton.mp ha)
      rw [eR, M.em]
      have eO : (msF n cj.f).getD me.toNat 0 - askN cj.st = othO c me := by rw [msF_get m0 m1, M.ef, M.es]; rfl
      refine ⟨fun az z zs pl kvs H4 ch4 A4 PD4 kz dz => ?_, fun az pl kvs hk => ?_⟩
      · rw [eO] at PD4
        have f4 : FrN [cj.nu] G5 H4 := O5.frn ((ch.mono (T := [cj.o, cj.nu]) (by simp)).trans ch4) (by simp)
        have kr3 := lst_frn f4 kr5 (by simpa using nuj.symm)
        have kD4 := lst_frn f4 kD5 (by simpa using DN)
        have d4 := dps_kt (fun a xs => sqt_frn f4) _ _ nls d5
        have shp := shaped_tos (lay_round (many + 1) (rsJ n od (j + 1))) (deep_round _ _) (othR (rsJ n od (j + 1)) me)
        refine ⟨_, rfl, _, _, .lst (SqL.of kz) dz, .lst (SqL.of kD4) d4, shp, shp, _, rfl, iteF' (eq_bl (eqv_shaped shp)) ?_⟩
        refine ⟨_, rfl, _, _, _, rfl, (A4).hp, ((A4).no "roster").2, _, _, _, _, _, _, _, _, _, _, _, _, _, rfl, A4, fun l3 h3 => ?_⟩
        have s3 := same_upd (o := .lst ((rsJ n od (j + 1)).map V.int)) h3
        refine ⟨_, rfl, _, _, dp_ints upd_same, dp_ints (s3 _ _ kr3), shaped_ints _, shaped_ints _, _, rfl, iteF' (eq_bl (eqv_shaped (shaped_ints _))) ?_⟩
        have A4 := (A4).same s3
        refine ⟨_, rfl, _, C, _, _, _, rfl, A4.hp, S.cl, S.round, caF_rnd _ _ _ _ _ _ _ _ _, _, rfl, rfl, _, rfl, iteF' (by rw [dec_ii, decide_eq_true rfl]; rfl) ?_⟩
        have A6 := A4
        have PD6 := PD4.same s3
        have f6 := (f5.trans (toN f4)).trans (Same.frn s3)
        have kr6 := s3 _ _ kr3
        obtain ⟨H6, e6⟩ : ∃ H6, H6 = upd H4 l3 (.lst ((rsJ n od (j + 1)).map V.int)) := ⟨_, rfl⟩
        rw [← e6] at A6 PD6 f6 kr6
        rw [← e6]
        clear e6
        have ender : ∀ (kv2 : List (Key × V)) (ps2 : List (Int × Int)) (G9 : Hp), CalAt G9 C cj.o cj.dx me cj.st (many + 1) ro' cj.nu .non (.int (many + 1)) pl (rsJ n od (j + 1)) (msF n cj.f) kv2 → PlD K G9 kv2 ps2 → (j + 1 = od.length → ps2 = [(me, othO c me)]) → ∃ c9, MkS K G9 C n me c od (j + 1) (many + 1) c9 ∧ c9.ro ≠ ra := fun kv2 ps2 G9 A9 PD9 hp => ⟨{ cj with ro := ro', pl := pl, rnd := many + 1, bg := .int (many + 1), rs := rsJ n od (j + 1), kvs := kv2, ps := ps2 }, ⟨M.eo, M.en, M.es, M.ef, rfl, rfl, ⟨A9, PD9, rn'⟩, .inr ⟨by omega, rfl⟩, fun h _ => hp h, fun _ _ => by omega, fun _ => ⟨ys, by rw [ey, ym]⟩, fun _ e => az (by rw [e]; simp [awF])⟩, rr⟩
        refine ⟨_, rfl, _, _, rfl, rfl, _, rfl, iteT' (by simp; omega) ?_⟩
        have kl6 := lst_frn f6 kl (by simp [ral, nl])
        refine ⟨_, rfl, Nat.zero_le _, fun e9 he9 => ?_⟩
        have s9 := same_upd (o := .lst []) he9
        refine ⟨.list (lt.map PyData.int), .list [], dp_ints (s9 _ _ kl6), .lst (SqL.of upd_same) .nil, shaped_ints _, by decide, _, rfl, ?_⟩
        rw [eqv_nilI]
        have A9 := A6.same s9
        have PD9 := PD6.same s9
        have f9 := f6.trans (Same.frn s9)
        have kr9 := s9 _ _ kr6
        have kl9 := s9 _ _ kl6
        have ko9 := lst_frn f9 ko (by simp [rao, no])
        rcases hlt with hl0 | ⟨sl, u, a, el, sl0, sl1, slm, slo, ule⟩
        · refine iteF' (by rw [decide_eq_true hl0]; rfl) (iteF ?_)
          exact ⟨many + 1, _, _, _, rfl, by omega, by omega, f9, kr9, .inl (ender kvs _ _ A9 PD9 fun _ => rfl)⟩
        · refine iteT' (by rw [el]; rfl) ?_
          obtain ⟨lst, hlst⟩ : ∃ lst, od[od.length - 1]? = some lst := ⟨od[od.length - 1]'(by omega), List.getElem?_eq_getElem (by omega)⟩
          have atL : atI (od.map V.int) ((((od.map V.int).length : Nat) : Int) - 1) = some (.int lst) := by
            rw [List.length_map, show ((od.length : Nat) : Int) - 1 = ((od.length - 1 : Nat) : Int) by omega]
            exact atI_nat (by rw [List.getElem?_map, hlst]; rfl)
          refine ⟨_, rfl, _, rfl, _, rfl, oa, _, rfl, .inl (SqL.of ko9), _, _, rfl, rfl, oa, _, _, .int lst, rfl, rfl, SqL.of ko9, atL, rfl, _, rfl, ?_⟩
          rw [dec_ii]
          by_cases eL : s' = lst
          · refine iteF' (by rw [decide_eq_true eL]; rfl) ?_
            exact ⟨many + 1, _, _, _, rfl, by omega, by omega, f9, kr9, .inl (ender kvs _ _ A9 PD9 fun _ => rfl)⟩
          have jn : j + 1 ≠ od.length := fun e => eL (by
            have : od.length - 1 = j := by omega
            rw [this, hs] at hlst
            exact Option.some.inj hlst)
          have awn : awF (rsJ n od (j + 1)) ([(me, othO c me)] ++ [(sl, u - a)]) ≠ [] := fun z => by
            have ml : lst ∈ rsJ n od (j + 1) := rsJ_mem.mpr ⟨⟨(bD lst (List.mem_of_getElem? hlst)).1, (bD lst (List.mem_of_getElem? hlst)).2.1⟩, fun h => by
              obtain ⟨j2, lj, ej⟩ := List.mem_take_iff_getElem.mp h
              have h1 : od[j2]? = some lst := by rw [List.getElem?_eq_getElem (by omega), ej]
              have := (List.getElem?_inj (by omega) ndD).mp (h1.trans hlst.symm)
              omega⟩
            have := List.filter_eq_nil_iff.mp z lst ml
            simp at this
            exact slo (by rw [← this (bD lst (List.mem_of_getElem? hlst)).2.2]; exact List.mem_of_getElem? hlst)
          refine iteT' (by rw [decide_eq_false eL]; rfl) ?_
          rw [el] at kl9
          have at0 : atI ([sl, u, a].map V.int) 0 = some (.int sl) := atI_nat (j := 0) rfl
          have at1 : atI ([sl, u, a].map V.int) 1 = some (.int u) := atI_nat (j := 1) rfl
          have at2 : atI ([sl, u, a].map V.int) 2 = some (.int a) := atI_nat (j := 2) rfl
          refine ⟨_, rfl, cj.o, cj.dx, _, rfl, A9.hp, (A9.no "hear").2, _, rfl, la, _, _, _, rfl, rfl, SqL.of kl9, at0, _, rfl, _, rfl, la, _, _, _, rfl, rfl, SqL.of kl9, at1, _, rfl, la, _, _, _, rfl, rfl, SqL.of kl9, at2, by show 5 ≤ sizeLine; decide, fun lp hlp => ?_⟩
          have sA := same_upd (o := .tup [.str "pledge", .int (many + 1), .int u, .int a, .int 0]) hlp
          have AA := A9.same sA
          have PA := PD9.same sA
          have krA := sA _ _ kr9
          have fA := f9.trans (Same.frn sA)
          have klA := sA _ _ kl9
          have lea : learn (msF n cj.f) sl u = msF n cj.f := by
            rw [learn_F sl0 sl1]
            congr 1
            funext m
            unfold updI
            split
            · next e => rw [e, M.ef]; split <;> omega
            · rfl
          refine ⟨cj.o, cj.dx, lp, sl, _, rfl, AA.hp, (AA.no "_hear_ask").2, (AA.no "_hear_pledge").2, .inr ⟨_, SqT.of upd_same, cj.o, cj.dx, lp, ro', cj.nu, pl, me, many + 1, many + 1, sl, many + 1, u, a, cj.st, rsJ n od (j + 1), msF n cj.f, kvs, [(me, othO c me)], rfl, AA, PA, SqT.of upd_same, .inr ⟨rfl, sl0, by omega, rn', by simp [slm], by simp, rsJ_nd, fun m hm => by have := (rsJ_mem.mp hm).1; omega, by omega, .inl ⟨awn, fun z2 kv2 HB chB AB PB kzB => ?_⟩⟩⟩⟩
          rw [lea] at AB
          have fB0 : FrN [cj.nu] (upd (upd H6 e9 (.lst [])) lp (.tup [.str "pledge", .int (many + 1), .int u, .int a, .int 0])) HB := fun b o e n1 n2 n3 => chB b o (fun m => by
            simp only [List.mem_cons, List.not_mem_nil, or_false] at m
            rcases m with z | z
            · rw [z, AA.hn] at e; exact n3 ⟨_, (Option.some.inj e).symm⟩ (by rw [z]; simp)
            · rw [z, AA.hpl] at e; exact n2 _ (Option.some.inj e).symm) e
          have fB := fA.trans (toN fB0)
          have krB := lst_frn fB0 krA (by simpa using nuj.symm)
          have klB := lst_frn fB0 klA (by rw [M.en]; simpa using nl)
          refine ⟨Nat.zero_le _, fun e2 he2 => ?_⟩
          have sC := same_upd (o := .lst []) he2
          refine ⟨.list [], .list [], .lst (SqL.of (sC _ _ kzB)) .nil, .lst (SqL.of upd_same) .nil, by decide, by decide, _, rfl, iteF' (by decide +kernel) ?_⟩
          have AC := AB.same sC
          refine ⟨_, rfl, cj.o, cj.dx, _, rfl, AC.hp, (AC.no "bears").2, _, _, _, _, _, _, _, _, _, _, _, _, _, rfl, AC, .inl ⟨rfl, rfl, _, rfl, iteF' rfl ?_⟩⟩
          refine ⟨_, rfl, la, _, _, _, rfl, rfl, SqL.of (sC _ _ klB), at0, _, rfl, cj.o, cj.dx, _, rfl, AC.hp, (AC.no "awaits").2, cj.o, cj.dx, me, cj.st, many + 1, ro', cj.nu, .non, .int (many + 1), pl, rsJ n od (j + 1), msF n cj.f, kv2, _, rfl, AC, PB.keys, by omega, .inr ⟨⟨_, rfl⟩, fun l5 H9 s9 hl5 kl5 => ?_⟩⟩
          refine .inl ⟨l5, _, rfl, .inl (SqL.of kl5), rfl, flat_ints _, _, rfl, ?_⟩
          rw [inV_ints]
          refine iteF' (decide_eq_false fun h => ?_) ?_
          · have := (List.mem_filter.mp h).2
            simp at this
          · have sCD := sC.trans s9
            exact ⟨many + 1, _, _, _, rfl, by omega, by omega, fB.trans (Same.frn sCD), sCD _ _ krB, .inl (ender kv2 _ _ (AB.same sCD) (PB.same sCD) fun e => absurd e jn)⟩
      · rw [eO] at az
        rw [eO]
        have all1 : ∀ m ∈ rsJ n od (j + 1), m = me := fun m hm => by
          have := List.filter_eq_nil_iff.mp az m hm
          simpa using this
        have ysn : ys = [] := by
          cases hy : ys with
          | nil => rfl
          | cons x xs =>
            have nd1 := rsJ_nd (n := n) (od := od) (j := j + 1)
            have hx := all1 x (by rw [ey, hy]; simp)
            rw [ey, hy, ym, hx] at nd1
            simp at nd1
        have rOne : rsJ n od (j + 1) = [me] := by rw [ey, ym, ysn]
        have jn : j + 1 = od.length := by
          rcases Nat.lt_or_ge (j + 1) od.length with h | h
          · exfalso
            have hn : od[j + 1]? = some od[j + 1] := List.getElem?_eq_getElem h
            have hb := bD _ (List.mem_of_getElem? hn)
            refine hb.2.2 (all1 _ (rsJ_mem.mpr ⟨⟨hb.1, hb.2.1⟩, fun z => ?_⟩))
            obtain ⟨j2, lj, ej⟩ := List.mem_take_iff_getElem.mp z
            have h1 : od[j2]? = some od[j + 1] := by rw [List.getElem?_eq_getElem (by omega), ej]
            have := (List.getElem?_inj (by omega) ndD).mp (h1.trans hn.symm)
            omega
          · omega
        have last1 : rsJ n od od.length = [me] := by rw [← jn]; exact rOne
        have lt0 : lt = [] := by
          rcases fin with ⟨h, _⟩ | ⟨_, h, _⟩
          · exact absurd last1 h
          · exact h
        have z5n : zs5 = [] := by
          rw [rOne, show othR [me] me = [] by unfold othR; simp] at d5
          cases d5
          rfl
        rw [z5n] at kD5
        rw [rOne, show ([me].map fun m => (m, oweF [(me, othO c me)] m)) = [(me, othO c me)] by simp [oweF], line1, msF_get m0 m1]
        refine ⟨fun e z k dk d l H4 ch4 A4 KA kz => ?_, fun rest e z k dk d l H4 ch4 A4 KA kz => ?_, fun t rest e ne => ?_⟩
        · skip
          have f4 : FrN [cj.nu] G5 H4 := O5.frn ((ch.mono (T := [cj.o, cj.nu]) (by simp)).trans ch4) (by simp)
          have kr3 := lst_frn f4 kr5 (by simpa using nuj.symm)
          have kD4 := lst_frn f4 kD5 (by simpa using DN)
          refine ⟨_, rfl, .list [], .list [], .lst (SqL.of kz) .nil, .lst (SqL.of kD4) .nil, by decide, by decide, _, rfl, iteF' (by decide +kernel) ?_⟩
          rw [← rOne] at A4
          refine ⟨_, rfl, _, _, _, rfl, (A4).hp, ((A4).no "roster").2, _, _, _, _, _, _, _, _, _, _, _, _, _, rfl, A4, fun l3 h3 => ?_⟩
          have s3 := same_upd (o := .lst ((rsJ n od (j + 1)).map V.int)) h3
          refine ⟨_, rfl, _, _, dp_ints upd_same, dp_ints (s3 _ _ kr3), shaped_ints _, shaped_ints _, _, rfl, iteF' (eq_bl (eqv_shaped (shaped_ints _))) ?_⟩
          have A4 := (A4).same s3
          refine ⟨_, rfl, _, C, _, _, _, rfl, A4.hp, S.cl, S.round, caF_rnd _ _ _ _ _ _ _ _ _, _, rfl, rfl, _, rfl, iteF' (by rw [dec_ii, decide_eq_true rfl]; rfl) ?_⟩
          have f6 := (f5.trans (toN f4)).trans (Same.frn s3)
          have kr6 := s3 _ _ kr3
          have A6 := A4
          have K6 := KA.same s3
          refine ⟨_, rfl, _, _, rfl, rfl, _, rfl, iteT' (by simp; omega) ?_⟩
          have kl6 := lst_frn f6 kl (by simp [ral, nl])
          refine ⟨_, rfl, Nat.zero_le _, fun e9 he9 => ?_⟩
          have s9 := same_upd (o := .lst []) he9
          refine ⟨.list (lt.map PyData.int), .list [], dp_ints (s9 _ _ kl6), .lst (SqL.of upd_same) .nil, shaped_ints _, by decide, _, rfl, ?_⟩
          rw [eqv_nilI]
          refine iteF' (by rw [decide_eq_true lt0]; rfl) (iteF ?_)
          refine ⟨many + 1, _, _, _, rfl, by omega, by omega, f6.trans (Same.frn s9), s9 _ _ (kr6.trans (by rw [rOne])), .inr ⟨last1, jn, by omega, { cj with ro := ro', pl := pl, st := cj.st, rnd := many + 1, bg := .int (many + 1), rs := [me], kvs := kvs, ps := [(me, othO c me)] }, k, dk, d, l, ⟨M.eo, M.en, ?_, M.ef, rfl, rfl, ⟨?_, hk⟩, rfl, rfl, K6.same s9⟩⟩⟩
          · have h0 : ¬ (othO c me < cj.f me) := fun h => by rw [if_pos h] at e; cases e
            show cj.st = _
            rw [M.es, if_neg (fun h => h0 (by unfold othO askN; rw [if_pos h, M.ef]; omega))]
          · rw [← rOne]
            exact A6.same s9
        · by_cases h0 : othO c me < cj.f me
          · rw [if_pos h0] at e
            have er : rest = [] := by injection e with _ h; exact h.symm
            rw [er] at KA
            have f4 : FrN [cj.nu] G5 H4 := O5.frn ((ch.mono (T := [cj.o, cj.nu]) (by simp)).trans ch4) (by simp)
            have kr3 := lst_frn f4 kr5 (by simpa using nuj.symm)
            have kD4 := lst_frn f4 kD5 (by simpa using DN)
            refine ⟨_, rfl, .list [], .list [], .lst (SqL.of kz) .nil, .lst (SqL.of kD4) .nil, by decide, by decide, _, rfl, iteF' (by decide +kernel) ?_⟩
            rw [← rOne] at A4
            refine ⟨_, rfl, _, _, _, rfl, (A4).hp, ((A4).no "roster").2, _, _, _, _, _, _, _, _, _, _, _, _, _, rfl, A4, fun l3 h3 => ?_⟩
            have s3 := same_upd (o := .lst ((rsJ n od (j + 1)).map V.int)) h3
            refine ⟨_, rfl, _, _, dp_ints upd_same, dp_ints (s3 _ _ kr3), shaped_ints _, shaped_ints _, _, rfl, iteF' (eq_bl (eqv_shaped (shaped_ints _))) ?_⟩
            have A4 := (A4).same s3
            refine ⟨_, rfl, _, C, _, _, _, rfl, A4.hp, S.cl, S.round, caF_rnd _ _ _ _ _ _ _ _ _, _, rfl, rfl, _, rfl, iteF' (by rw [dec_ii, decide_eq_true rfl]; rfl) ?_⟩
            have f6 := (f5.trans (toN f4)).trans (Same.frn s3)
            have kr6 := s3 _ _ kr3
            have A6 := A4
            have K6 := KA.same s3
            refine ⟨_, rfl, _, _, rfl, rfl, _, rfl, iteT' (by simp; omega) ?_⟩
            have kl6 := lst_frn f6 kl (by simp [ral, nl])
            refine ⟨_, rfl, Nat.zero_le _, fun e9 he9 => ?_⟩
            have s9 := same_upd (o := .lst []) he9
            refine ⟨.list (lt.map PyData.int), .list [], dp_ints (s9 _ _ kl6), .lst (SqL.of upd_same) .nil, shaped_ints _, by decide, _, rfl, ?_⟩
            rw [eqv_nilI]
            refine iteF' (by rw [decide_eq_true lt0]; rfl) (iteF ?_)
            refine ⟨many + 1, _, _, _, rfl, by omega, by omega, f6.trans (Same.frn s9), s9 _ _ (kr6.trans (by rw [rOne])), .inr ⟨last1, jn, by omega, { cj with ro := ro', pl := pl, st := "in", rnd := many + 1, bg := .int (many + 1), rs := [me], kvs := kvs, ps := [(me, othO c me)] }, k, dk, d, l, ⟨M.eo, M.en, ?_, M.ef, rfl, rfl, ⟨?_, hk⟩, rfl, rfl, K6.same s9⟩⟩⟩
            · show ("in" : Str) = _
              have : c.st = "asking" := Classical.byContradiction fun h => by
                unfold othO askN at h0
                rw [if_neg h, M.ef] at h0
                omega
              rw [if_pos this]
            · rw [← rOne]
              exact A6.same s9
          · rw [if_neg h0] at e; cases e
        · by_cases h0 : othO c me < cj.f me
          · rw [if_pos h0] at e
            injection e with e1 _
            exact absurd e1.symm ne
          · rw [if_neg h0] at e; cases e
    · have ym : y ≠ me := by simpa using cy
      have many0 : many = 0 := by
        rcases M.bg with ⟨e, _⟩ | ⟨e, _⟩
        · exact e
        · exfalso
          obtain ⟨zs, ez⟩ := M.hm e
          rw [nx, ez] at ey
          unfold othR at ey
          rw [List.filter_cons, if_pos (by simp [sne.symm])] at ey
          injection ey with e1 _
          exact ym e1.symm
      refine ⟨_, rfl, cj.o, cj.dx, _, rfl, A2.hp, (A2.no "gone").2, _, rfl, cj.o, cj.dx, cj.ro, cj.nu, cj.pl, me, cj.rnd, s', cj.st, cj.bg, cj.rs, msF n cj.f, cj.kvs, cj.ps, y, ys, rfl, A2, O2.pl_, m0, by omega, ndr, bnr, lnr, eyR, fun _ z ro' H3 h0 ch A3 PD3 kz => ?_, fun e => absurd e ym⟩
      have f3 : FrN [cj.nu] (upd G1 d0 (.lst [])) H3 := O2.frn ch fun a ha => .inl (List.mem_singleton.mp ha)
      have dN : d0 ≠ cj.nu := (ne_of_none O1.at_.hn hd0).symm
      have kd3 := lst_frn f3 (show _ = some (.lst []) from upd_same) (by simpa using dN)
      have kr3 := lst_frn f3 kr2 (by simpa using nuj.symm)
      have rr : ro' ≠ ra := (ne_of_none kr2 h0).symm
      rw [eR, M.em] at A3
      refine ⟨_, rfl, .list [], .list [], .lst (SqL.of kz) .nil, .lst (SqL.of kd3) .nil, by decide, by decide, _, rfl, iteF' (by decide +kernel) ?_⟩
      refine ⟨_, rfl, _, _, _, rfl, (A3).hp, ((A3).no "roster").2, _, _, _, _, _, _, _, _, _, _, _, _, _, rfl, A3, fun l3 h3 => ?_⟩
      have s3 := same_upd (o := .lst ((rsJ n od (j + 1)).map V.int)) h3
      refine ⟨_, rfl, _, _, dp_ints upd_same, dp_ints (s3 _ _ kr3), shaped_ints _, shaped_ints _, _, rfl, iteF' (eq_bl (eqv_shaped (shaped_ints _))) ?_⟩
      have A4 := (A3).same s3
      refine ⟨_, rfl, _, C, _, _, _, rfl, A4.hp, S.cl, S.round, caF_rnd _ _ _ _ _ _ _ _ _, _, rfl, rfl, _, rfl, iteF' (by rw [dec_ii, decide_eq_true rfl]; rfl) ?_⟩
      refine ⟨_, rfl, _, _, rfl, rfl, _, rfl, iteF' (by rw [many0]; rfl) (iteF ?_)⟩
      have fX : FrN [ra, c.nu] H3 _ := Same.frn s3
      have fAll : FrN [ra, c.nu] H _ := ((f1.trans (Same.frn s2)).trans (show FrN [ra, c.nu] _ H3 from fun a o e n1 n2 n3 => f3 a o e n1 n2 fun x m => n3 x (by rw [List.mem_singleton.mp m, M.en]; simp))).trans fX
      refine ⟨many, _, _, _, rfl, mn0, by omega, fAll, s3 _ _ kr3, .inl ⟨{ cj with ro := ro', rs := rsJ n od (j + 1) }, ⟨M.eo, M.en, M.es, M.ef, rfl, M.em, ⟨?_, PD3.same s3, ?_⟩, M.bg, fun _ h => by omega, fun ⟨zs, ez⟩ _ => ?_, fun h => by omega, fun _ e => by rw [ey] at e; injection e with e1 _; exact ym e1⟩, rr⟩⟩
      · show CalAt _ C cj.o cj.dx me cj.st cj.rnd ro' cj.nu .non cj.bg cj.pl (rsJ n od (j + 1)) (msF n cj.f) cj.kvs
        rw [M.em]
        exact A4
      · show ro' ≠ cj.nu
        exact (ne_of_none A2.hn h0).symm
      · rw [ey] at ez
        injection ez with e1 _
        exact absurd e1 ym
  rintro σ G ⟨many, z5, z6, z7, rfl, mn0, mnj, fG, kr, st⟩
  have fH : FrN [c.nu] H G := fun a o e n1 n2 n3 => fG a o e n1 n2 fun x m => by
    simp only [List.mem_cons, List.not_mem_nil, or_false] at m
    rcases m with z | z
    · rw [z, hra] at e; cases e
    · exact n3 x (by rw [z]; simp)
  rw [List.length_map] at mnj st
  have lp := List.length_pos_iff.mpr neD
  rcases st with ⟨cj, M, _⟩ | ⟨last1, _, mp, cj, k, dk, d, l, ME⟩
  · rcases fin with ⟨_, fin⟩ | ⟨last1, _, _⟩
    · obtain ⟨y, ys, ey⟩ : ∃ y ys, rsJ n od od.length = y :: ys := by
        cases h : rsJ n od od.length with
        | nil => exact absurd (meJ od.length) (by rw [h]; exact List.not_mem_nil)
        | cons y ys => exact ⟨y, ys, rfl⟩
      have ym : y = me := by
        have hy : y ∈ rsJ n od od.length := by rw [ey]; simp
        have hy2 := rsJ_mem.mp hy
        rw [List.take_length] at hy2
        have h1 := least y hy2.1.1 hy2.1.2 hy2.2
        have hm := meJ od.length
        have up := rsJ_up (n := n) (od := od) (j := od.length)
        rw [ey] at hm up
        rcases List.mem_cons.mp hm with h | h
        · exact h.symm
        · have := (List.pairwise_cons.mp up).1 me h
          omega
      have mp := M.hd ⟨ys, by rw [ey, ym]⟩ lp
      exact ⟨_, rfl, fin many cj G mp (by omega) M fH⟩
    · exact absurd last1 (M.nal rfl)
  · rcases fin with ⟨h, _⟩ | ⟨_, _, fin⟩
    · exact absurd last1 h
    · exact ⟨_, rfl, fin many cj k dk d l G mp (by omega) ME fH⟩
end

end G0
namespace G0
open PySem PySem.Spec PyProof.Rows L2 NdefX ClX
set_option maxHeartbeats 8000000
section
variable {P : Program} {w : World} {K : PySem.W.Frag} {mg : Str → Option Value} {base : Heap} {C CK : Addr}
/-! ### alone -/
def spAlone (K : PySem.W.Frag) (C : Addr) : Sp := fun vs H Q _ => ∃ (q oa ma : Addr) (n me : Int) (c : One) (od mo : List Int), vs = [.ref q, .ref oa, .ref ma] ∧ q = c.o ∧ OnAt K H C n me .non c ∧ n ≤ 60 ∧ 0 ≤ me ∧ me < n ∧ c.rs = rangeI n ∧ c.rnd = 0 ∧ c.bg = .non ∧ c.ps = [] ∧
  H oa = some (.lst (od.map V.int)) ∧ oa ≠ c.nu ∧ H ma = some (.lst (mo.map V.int)) ∧ ma ≠ c.nu ∧ od.Nodup ∧ od ≠ [] ∧ (∀ m ∈ od, 0 ≤ m ∧ m < n ∧ m ≠ me) ∧ (∀ m, 0 ≤ m → m < n → m ∉ od → me ≤ m) ∧ rsJ n od od.length = [me] ∧ othO c me = 0 ∧
  ((mo ≠ [] ∧ c.st = "asking") ∨ (mo = [] ∧ c.st = "out")) ∧ ∀ H', Q (.bl true) H'
theorem sc_law_alone : FnScope ["one", "order", "more", "number"] ["one", "order", "more"] (defScope s_law_alone) :=
  ⟨rfl, rfl, rfl, by decide +kernel, rfl, by decide +kernel, by decide +kernel⟩
theorem ok_alone (F : Fn K mg "_law_alone" s_law_alone) (T : BlT97 mg) (S : CalT K C) (C_marks_heard : Cal P w K mg base "_law_marks_heard" 8 ["one", "order", "late"] (spMarks K C CK)) (MB : Me P w K mg base C "bears" 2 ["self"] (spBears K C CK)) (MW : Me P w K mg base C "awaits" 1 ["self"] (spAw K C)) : Cal P w K mg base "_law_alone" 9 ["one", "order", "more"] (spAlone K C) := by
  obtain ⟨fB, fdB, GB, bB, mB⟩ := MB
  obtain ⟨fW, fdW, GW, bW, mW⟩ := MW
  refine cal_of F sc_law_alone
    (fun _ _ _ _ _ _ us hl => match us, hl with | [_, _, _], _ => rfl) ?_ ?_
  · rintro vs H Q E ⟨_, _, _, _, _, _, _, _, rfl, _⟩
    rfl
  rintro f cdv A outer s H vs Q E free hr ⟨q, oa, ma, n, me, c, od, mo, rfl, rfl, O, n60, m0, m1, ers, ernd, ebg, eps, ko, no, km, nm, ndD, neD, bD, least, last1, oz, hst, fin⟩
  have hr2 : Room 2 _ := hr.mono (by decide)
  have hr1 : Room 1 _ := hr.mono (by decide)
  refine ⟨_, (pss_cons (ps_set (i := 3) sc_law_alone.nd rfl (Or.inl rfl) (pe_cal C_marks_heard free (hr.mono (by decide)) (pa_cons (pv 0) (pa_cons (pv 1) (pa_cons (pe_lst pa_nil) pa_nil)))))
    (pss_cons (ps_if (PW.pt (pw_or (pt_cmpR op_isN (pv 3) pe_non (nomark _)) (pw_or1 (pt_cmpR (op_neD (u64 hr)) (pe_meth0 (pv 0) S.cl mW GW hr1 bW .nil pass0) (pe_lst pa_nil) (nomark _)))))
    (pss_one (ps_ret pe_bl))
    pss_nil)
    (pss_cons (ps_if (pt_cmpR (op_neD (u64 hr)) (pv 2) (pe_lst pa_nil) (nomark _))
    (pss_one (ps_ret (pe_and (pe_cmpR op_eq (pe_fld (pv 0) (by rfl)) pe_str (nomark _)) (pe_one (pe_cmpR (op_eqD (u64 hr)) (pe_meth0 (pv 0) S.cl mB GB hr2 bB .nil pass0) (pe_tup (pa_cons (pv 3) (pa_cons (pe_tup (pa_cons (pe_tup (pa_cons (pe_fld (pv 0) (by rfl)) (pa_cons pe_int pa_nil))) pa_nil)) (pa_cons (pe_tup pa_nil) pa_nil)))) (nomark _))))))
    pss_nil)
    (pss_one (ps_ret (pe_and (pe_cmpR op_eq (pe_fld (pv 0) (by rfl)) pe_str (nomark _)) (pe_one (pe_cmpR (op_eqD (u64 hr)) (pe_meth0 (pv 0) S.cl mB GB hr2 bB .nil pass0) (pe_tup (pa_cons (pv 3) (pa_cons (pe_tup (pa_cons (pe_tup (pa_cons (pe_fld (pv 0) (by rfl)) (pa_cons pe_int pa_nil))) pa_nil)) (pa_cons (pe_tup pa_nil) pa_nil)))) (nomark _))))))))), ?_⟩
  refine ⟨_, rfl, _, rfl, Nat.zero_le _, fun la hla => ?_⟩
  have s1 := same_upd (o := .lst []) hla
  refine ⟨c.o, oa, la, n, me, c, od, [], rfl, rfl, O.same s1, n60, m0, m1, ers, ernd, ebg, eps, s1 _ _ ko, no, upd_same, (ne_of_none O.at_.hn hla).symm, ndD, neD, bD, least, .inl rfl, .inr ⟨last1, rfl, fun g cj k dk d l H2 g0 g1 ME f2 => ?_⟩⟩
  have km2 := lst_frn f2 (s1 _ _ km) (by simpa using nm)
  have A2 := ME.on.at_
  refine ⟨_, rfl, rfl, _, rfl, iteF' rfl ?_⟩
  rw [← ME.eo]
  have awn : awF cj.rs cj.ps = [] := by
    rw [ME.er]
    unfold awF
    rw [ME.ps]
    simp
  refine ⟨_, rfl, cj.o, cj.dx, _, rfl, A2.hp, (A2.no "awaits").2, cj.o, cj.dx, me, cj.st, cj.rnd, cj.ro, cj.nu, .ref k, cj.bg, cj.pl, cj.rs, _, cj.kvs, cj.ps, rfl, A2, ME.on.keys, by rw [ME.er]; simp, .inr ⟨⟨g, ME.bg⟩, fun l5 H3 s3 hl5 kl5 => ?_⟩⟩
  rw [awn] at kl5
  refine ⟨Nat.zero_le _, fun e he => ?_⟩
  have s4 := same_upd (o := .lst []) he
  refine ⟨.list [], .list [], .lst (SqL.of (s4 _ _ kl5)) .nil, .lst (SqL.of upd_same) .nil, by decide, by decide, _, rfl, iteF' (by decide +kernel) ?_⟩
  have s34 := s3.trans s4
  have km4 := s34 _ _ km2
  refine ⟨_, rfl, Nat.zero_le _, fun e5 he5 => ?_⟩
  have s5 := same_upd (o := .lst []) he5
  refine ⟨.list (mo.map PyData.int), .list [], dp_ints (s5 _ _ km4), .lst (SqL.of upd_same) .nil, shaped_ints _, by decide, _, rfl, ?_⟩
  rw [eqv_nilI]
  have s35 := s34.trans s5
  have A6 := A2.same s35
  have K6 := ME.key.same s35
  rw [oz] at K6
  rcases hst with ⟨hm, hs⟩ | ⟨hm, hs⟩
  · refine iteT' (by rw [decide_eq_false hm]; rfl) ?_
    have es : cj.st = "in" := by rw [ME.es, if_pos hs]
    refine ⟨_, rfl, cj.o, C, cj.dx, _, _, rfl, A6.hp, S.cl, S.state, caF_stt _ _ _ _ _ _ _ _ _, rfl, _, rfl, ?_⟩
    rw [es, dec_str]
    refine iteT' (by decide +kernel) ?_
    refine ⟨_, rfl, cj.o, cj.dx, _, rfl, A6.hp, (A6.no "bears").2, _, _, _, _, _, _, _, _, _, _, _, _, _, rfl, A6, .inr ⟨k, dk, g, d, l, _, [], rfl, K6, fun tq S' H7 s7 pS uS dT => ?_⟩⟩
    have eS := perm_up pS uS (by simp)
    subst eS
    have A7 := A6.same s7
    refine ⟨_, rfl, _, rfl, cj.o, C, cj.dx, _, _, rfl, A7.hp, S.cl, S.me, caF_me _ _ _ _ _ _ _ _ _, by show 2 ≤ sizeLine; decide, fun t1 ht1 => ?_⟩
    have u1 := same_upd (o := .tup [.int me, .int 0]) ht1
    refine ⟨by show 1 ≤ sizeLine; decide, fun t2 ht2 => ?_⟩
    have u2 := same_upd (o := .tup [.ref t1]) ht2
    refine ⟨Nat.zero_le _, fun t3 ht3 => ?_⟩
    have u3 := same_upd (o := .tup []) ht3
    refine ⟨by show 3 ≤ sizeLine; decide, fun t4 ht4 => ?_⟩
    have u4 := same_upd (o := .tup [.int g, .ref t2, .ref t3]) ht4
    have shp := shaped_told g [(me, 0)] []
    refine ⟨toldD g [(me, 0)] [], toldD g [(me, 0)] [], dp_same (((u1.trans u2).trans u3).trans u4) _ _ dT, .tup (SqT.of upd_same) (.cons (.int g) (.cons (.tup (SqT.of ((u3.trans u4) _ _ upd_same)) (.cons (.tup (SqT.of (((u2.trans u3).trans u4) _ _ upd_same)) (.cons (.int me) (.cons (.int 0) .nil))) .nil)) (.cons (.tup (SqT.of (u4 _ _ upd_same)) .nil) .nil))), shp, shp, ?_⟩
    rw [eqv_shaped shp]
    exact fin _
  · refine iteF' (by rw [decide_eq_true hm]; rfl) ?_
    have es : cj.st = "out" := by rw [ME.es, if_neg (by rw [hs]; decide +kernel), hs]
    refine ⟨_, rfl, cj.o, C, cj.dx, _, _, rfl, A6.hp, S.cl, S.state, caF_stt _ _ _ _ _ _ _ _ _, rfl, _, rfl, ?_⟩
    rw [es, dec_str]
    refine iteT' (by decide +kernel) ?_
    refine ⟨_, rfl, cj.o, cj.dx, _, rfl, A6.hp, (A6.no "bears").2, _, _, _, _, _, _, _, _, _, _, _, _, _, rfl, A6, .inr ⟨k, dk, g, d, l, _, [], rfl, K6, fun tq S' H7 s7 pS uS dT => ?_⟩⟩
    have eS := perm_up pS uS (by simp)
    subst eS
    have A7 := A6.same s7
    refine ⟨_, rfl, _, rfl, cj.o, C, cj.dx, _, _, rfl, A7.hp, S.cl, S.me, caF_me _ _ _ _ _ _ _ _ _, by show 2 ≤ sizeLine; decide, fun t1 ht1 => ?_⟩
    have u1 := same_upd (o := .tup [.int me, .int 0]) ht1
    refine ⟨by show 1 ≤ sizeLine; decide, fun t2 ht2 => ?_⟩
    have u2 := same_upd (o := .tup [.ref t1]) ht2
    refine ⟨Nat.zero_le _, fun t3 ht3 => ?_⟩
    have u3 := same_upd (o := .tup []) ht3
    refine ⟨by show 3 ≤ sizeLine; decide, fun t4 ht4 => ?_⟩
    have u4 := same_upd (o := .tup [.int g, .ref t2, .ref t3]) ht4
    have shp := shaped_told g [(me, 0)] []
    refine ⟨toldD g [(me, 0)] [], toldD g [(me, 0)] [], dp_same (((u1.trans u2).trans u3).trans u4) _ _ dT, .tup (SqT.of upd_same) (.cons (.int g) (.cons (.tup (SqT.of ((u3.trans u4) _ _ upd_same)) (.cons (.tup (SqT.of (((u2.trans u3).trans u4) _ _ upd_same)) (.cons (.int me) (.cons (.int 0) .nil))) .nil)) (.cons (.tup (SqT.of (u4 _ _ upd_same)) .nil) .nil))), shp, shp, ?_⟩
    rw [eqv_shaped shp]
    exact fin _
end

end G0
namespace G0
open PySem PySem.Spec PyProof.Rows L2 NdefX ClX
set_option maxHeartbeats 8000000
section
variable {P : Program} {w : World} {K : PySem.W.Frag} {mg : Str → Option Value} {base : Heap} {C CK : Addr}
/-! ### all pledges are heard -/
structure PlT (n me g : Int) (c : One) (ls od mo : List Int) (W : List (Int × Int)) : Prop where
  rs : c.rs = ls
  rnd : c.rnd = g
  bg : c.bg = .int g
  g0 : 0 < g
  g1 : g ≤ 100
  m0 : 0 ≤ me
  m1 : me < n
  n1 : n ≤ 60
  odp : od.Perm (othR ls me)
  ne : od ≠ []
  fst : W.map (·.1) = ls
  up : ls.Pairwise (· < ·)
  mem : me ∈ ls
  least : ∀ m ∈ ls, me ≤ m
  bnd : ∀ m ∈ ls, 0 ≤ m ∧ m < n
  me0 : oweF W me = 0
  often : ∀ m ∈ ls, 0 ≤ oweF W m
  f : ∀ m ∈ ls, c.f m = oweF W m + wantsI mo m
  st : (me ∈ mo ∧ c.st = "asking") ∨ (me ∉ mo ∧ c.st = "out")
structure BlS97 (mg : Str → Option Value) : Prop extends BlT97 mg where
  sorted : mg "sorted" = none
theorem owe_mem {W : List (Int × Int)} {p : Int × Int} (nd : (W.map (·.1)).Nodup) (h : p ∈ W) : oweF W p.1 = p.2 := by
  induction W with
  | nil => exact absurd h List.not_mem_nil
  | cons x W ih =>
    rw [List.map_cons, List.nodup_cons] at nd
    unfold oweF
    rcases List.mem_cons.mp h with e | h
    · rw [e, List.lookup_cons_self]
      rfl
    · have ne : p.1 ≠ x.1 := fun e => nd.1 (by rw [← e]; exact List.mem_map.mpr ⟨p, h, rfl⟩)
      rw [List.lookup_cons, beq_false_of_ne ne]
      exact ih nd.2 h
theorem back_owe {W : List (Int × Int)} (nd : (W.map (·.1)).Nodup) : (W.map (·.1)).map (fun m => (m, oweF W m)) = W := by
  rw [List.map_map]
  refine (List.map_congr_left (g := id) fun p hp => ?_).trans (List.map_id W)
  show (p.1, oweF W p.1) = p
  rw [owe_mem nd hp]
theorem one_filt {W : List (Int × Int)} {m : Int} (nd : (W.map (·.1)).Nodup) (h : m ∈ W.map (·.1)) : (W.filter fun p => decide (p.1 = m)).map (·.2) = [oweF W m] := by
  induction W with
  | nil => exact absurd h List.not_mem_nil
  | cons x W ih =>
    rw [List.map_cons, List.nodup_cons] at nd
    rw [List.map_cons] at h
    unfold oweF
    by_cases e : x.1 = m
    · rw [List.filter_cons, if_pos (by simp [e]), ← e, List.lookup_cons_self, List.filter_eq_nil_iff.mpr fun p hp => by
        simp
        intro z
        exact nd.1 (by rw [← z]; exact List.mem_map.mpr ⟨p, hp, rfl⟩)]
      rfl
    · rw [List.filter_cons, if_neg (by simp [e]), List.lookup_cons, beq_false_of_ne (fun z => e z.symm)]
      exact ih nd.2 ((List.mem_cons.mp h).resolve_left fun z => e z.symm)
theorem cut01g {xs : List Int} : cutV (xs.map V.int) none (some 1) = (xs.take 1).map V.int := by
  unfold cutV
  cases xs with
  | nil => rfl
  | cons x xs =>
    rw [List.map_cons]
    unfold HT.sIx
    simp
def psK (me : Int) (W : List (Int × Int)) (od : List Int) (i : Nat) : List (Int × Int) := (me, 0) :: (od.take i).map fun m => (m, oweF W m)
theorem look_map {f : Int → Int} {m : Int} : ∀ {l : List Int}, m ∈ l → (l.map fun x => (x, f x)).lookup m = some (f m)
  | [], h => absurd h List.not_mem_nil
  | x :: l, h => by
    rw [List.map_cons]
    by_cases e : m = x
    · rw [e, List.lookup_cons_self]
    · rw [List.lookup_cons, beq_false_of_ne e]
      exact look_map ((List.mem_cons.mp h).resolve_left e)
theorem owe_psK {me : Int} {W : List (Int × Int)} {od : List Int} {i : Nat} {m : Int} (h0 : oweF W me = 0) (h : m = me ∨ m ∈ od.take i) : oweF (psK me W od i) m = oweF W m := by
  by_cases e : m = me
  · rw [e, h0]
    unfold oweF psK
    rw [List.lookup_cons_self]
    rfl
  · unfold psK
    rw [show oweF ((me, 0) :: (od.take i).map fun m => (m, oweF W m)) m = (((me, 0) :: (od.take i).map fun m => (m, oweF W m)).lookup m).getD 0 from rfl, List.lookup_cons, beq_false_of_ne e]
    show (List.lookup m ((od.take i).map fun m => (m, oweF W m))).getD 0 = oweF W m
    rw [look_map (h.resolve_left e)]
    rfl
theorem val_owe {m : Int} : ∀ {W : List (Int × Int)}, m ∈ W.map (·.1) → valV (W.map entI) (Sum.inl m) = some (.int (oweF W m))
  | [], h => absurd h List.not_mem_nil
  | p :: W, h => by
    rw [List.map_cons]
    by_cases e : p.1 = m
    · rw [show entI p = (Sum.inl m, V.int p.2) by unfold entI; rw [e], valV_pos rfl]
      unfold oweF
      rw [← e, show p = (p.1, p.2) from rfl, List.lookup_cons_self]
      rfl
    · rw [show entI p = (Sum.inl p.1, V.int p.2) from rfl, valV_neg (fun z => e (Sum.inl.inj z)), val_owe ((List.mem_cons.mp h).resolve_left fun z => e z.symm)]
      unfold oweF
      rw [show p = (p.1, p.2) from rfl, List.lookup_cons, beq_false_of_ne (fun z => e z.symm)]
theorem one_of' {x : Int} {l : List Int} (nd : l.Nodup) (h : ∀ m, m ∈ l ↔ m = x) : l = [x] := by
  have p : l.Perm [x] := (List.perm_ext_iff_of_nodup nd (by simp)).mpr fun m => by rw [h]; simp
  exact List.perm_singleton.mp p
theorem line_W {n me : Int} {f : Int → Int} {ls mo : List Int} {W : List (Int × Int)} (fst : W.map (·.1) = ls) (bnd : ∀ m ∈ ls, 0 ≤ m ∧ m < n) (hf : ∀ m ∈ ls, f m = oweF W m + wantsI mo m) : lineUp me ls (msF n f) W [] = lineR ls me mo := by
  have due : ∀ m ∈ ls, dueS W m ((msF n f).getD m.toNat 0) = decide (m ∈ mo) := fun m hm => by
    have b := bnd m hm
    unfold dueS
    rw [val_owe (by rw [fst]; exact hm), msF_get b.1 b.2, hf m hm]
    refine decide_eq_decide.mpr ?_
    unfold wantsI
    by_cases e : m ∈ mo
    · rw [if_pos e]
      exact ⟨fun _ => e, fun _ => by omega⟩
    · rw [if_neg e]
      exact ⟨fun h => by omega, fun h => absurd h e⟩
  unfold lineUp lineR
  rw [show keepL [] ls = [] from rfl, List.nil_append]
  unfold ordR
  rw [List.filter_append, List.filter_filter, List.filter_filter]
  have h1 : ∀ p : Int → Bool, (ls.filter fun m => (!decide (m ∈ ([] : List Int)) && dueS W m ((msF n f).getD m.toNat 0)) && p m) = ls.filter fun m => p m && decide (m ∈ mo) := fun p => List.filter_congr fun m hm => by
    rw [due m hm]
    simp [Bool.and_comm]
  rw [h1, h1]
theorem lineR_me {ls mo : List Int} {me : Int} (up : ls.Pairwise (· < ·)) (mem : me ∈ ls) (least : ∀ m ∈ ls, me ≤ m) : lineR ls me mo = (ls.filter fun m => decide (me < m) && decide (m ∈ mo)) ++ if me ∈ mo then [me] else [] := by
  unfold lineR
  refine congrArg _ ?_
  by_cases c : me ∈ mo
  · rw [if_pos c]
    refine one_of' ((up.imp fun h => by omega : ls.Nodup).filter _) fun m => ?_
    rw [List.mem_filter]
    constructor
    · rintro ⟨h, h2⟩
      have h2 : m ≤ me ∧ m ∈ mo := by simpa using h2
      have := least m h
      omega
    · intro e
      subst e
      exact ⟨mem, by simp [c]⟩
  · rw [if_neg c]
    refine List.filter_eq_nil_iff.mpr fun m hm h => ?_
    have h2 : m ≤ me ∧ m ∈ mo := by simpa using h
    have := least m hm
    have e : m = me := by omega
    exact c (by rw [← e]; exact h2.2)
/-- all pledges are there: the key is made, or has gone on -/
def FinP (K : PySem.W.Frag) (G : Hp) (C CK : Addr) (n me g : Int) (c : One) (ls mo : List Int) (W : List (Int × Int)) (zs : List V) : Prop := ∃ c9 : One, c9.o = c.o ∧ c9.nu = c.nu ∧ c9.f = c.f ∧ c9.rs = ls ∧ c9.rnd = g ∧ c9.bg = .int g ∧ awF ls c9.ps = [] ∧ c9.ro ≠ c9.nu ∧
  ((lineR ls me mo = [] ∧ zs = [] ∧ c9.st = "out" ∧ ∃ k dk d l, OnK G C n me (.ref k) c9 ∧ KeyAt G CK k dk g d l W []) ∨ (lineR ls me mo = [me] ∧ zs = [] ∧ c9.st = "in" ∧ ∃ k dk d l, OnK G C n me (.ref k) c9 ∧ KeyAt G CK k dk g d l W []) ∨ ∃ t rest, lineR ls me mo = t :: rest ∧ t ≠ me ∧ OnK G C n me .non c9 ∧ DpAll K G zs [toD (keyD g W rest) t])
def spPledges (K : PySem.W.Frag) (C : Addr) : Sp := fun vs H Q _ => ∃ (q oa wa ma la : Addr) (n me g : Int) (c : One) (ls od mo lt : List Int) (W : List (Int × Int)) (hs : List V), vs = [.ref q, .int g, .ref oa, .ref wa, .ref ma, .ref la] ∧ q = c.o ∧ OnAt K H C n me .non c ∧ c.ps = [(me, 0)] ∧ PlT n me g c ls od mo W ∧
  H oa = some (.lst (od.map V.int)) ∧ oa ≠ c.nu ∧ H wa = some (.lst hs) ∧ DpAll K H hs (W.map pairD) ∧ wa ≠ c.nu ∧ H ma = some (.lst (mo.map V.int)) ∧ ma ≠ c.nu ∧ H la = some (.lst (lt.map V.int)) ∧ la ≠ c.nu ∧ lt.length ≤ 3 ∧ mo.length ≤ 60 ∧ ∀ H', Q (.bl true) H'
theorem sc_law_pledges_heard : FnScope ["one", "number", "order", "went", "more", "late", "living", "seat", "often", "served", "letters", "k", "wants", "pair", "told", "line", "due"] ["one", "number", "order", "went", "more", "late"] (defScope s_law_pledges_heard) :=
  ⟨rfl, rfl, rfl, by decide +kernel, rfl, by decide +kernel, by decide +kernel⟩
theorem ok_pledges (F : Fn K mg "_law_pledges_heard" s_law_pledges_heard) (T : BlS97 mg) (S : CalT K C) (C_elder_heard : Cal P w K mg base "_law_elder_heard" 7 ["one", "number", "seat", "told"] (spElder K C)) (C_line : Cal P w K mg base "_law_line" 1 ["one", "living", "more"] (spLine K C)) (C_made : Cal P w K mg base "_law_made" 3 ["one", "number", "served", "line", "letters"] (spMade K C CK))
    (MH : Me P w K mg base C "hear" 6 ["self", "sender", "letter"] (spHear97 K C CK)) (MB : Me P w K mg base C "bears" 2 ["self"] (spBears K C CK)) (MW : Me P w K mg base C "awaits" 1 ["self"] (spAw K C)) : Cal P w K mg base "_law_pledges_heard" 8 ["one", "number", "order", "went", "more", "late"] (spPledges K C) := by
  obtain ⟨fH, fdH, GH, bH, mH⟩ := MH
  obtain ⟨fB, fdB, GB, bB, mB⟩ := MB
  obtain ⟨fW, fdW, GW, bW, mW⟩ := MW
  refine cal_of F sc_law_pledges_heard
    (fun _ _ _ _ _ _ us hl => match us, hl with | [_, _, _, _, _, _], _ => rfl) ?_ ?_
  · rintro vs H Q E ⟨_, _, _, _, _, _, _, _, _, _, _, _, _, _, _, rfl, _⟩
    rfl
  rintro f cdv A outer s H vs Q E free hr ⟨q, oa, wa, ma, la, n, me, g, c, ls, od, mo, lt, W, hs, rfl, rfl, O, eps, PT, ko, no, kw, dw, nw, km, nm, kl, nl, llt, lmo, fin⟩
  have hr6 : Room 6 _ := hr.mono (by decide)
  have hr2 : Room 2 _ := hr.mono (by decide)
  have hr1 : Room 1 _ := hr.mono (by decide)
-- [(0, 'one'), (1, 'number'), (2, 'order'), (3, 'went'), (4, 'more'), (5, 'late'), (6, 'living'), (7, 'seat'), (8, 'often'), (9, 'served'), (10, 'letters'), (11, 'k'), (12, 'wants'), (13, 'pair'), (14, 'told'), (15, 'line'), (16, 'due')]
  refine ⟨_, (pss_cons (ps_setLc (i := 6) (own := [("seat", 7), ("often", 8)]) (g := gTup K 2 (gCons (gName 7) (gCons (gName 8) gNil))) (tt := tYes) (by rfl) sc_law_pledges_heard.nd rfl rfl (sw_true rfl rfl rfl (by decide +kernel)) (pi_list (pv 3)) (blkOk_by (N := ["one", "number", "order", "went", "more", "late", "living", "seat", "often", "served", "letters", "k", "wants", "pair", "told", "line", "due"]) (sc := defScope s_law_pledges_heard) (by decide +kernel)) (fun _ _ _ _ _ => pg_tup (by rfl) (pgs_cons (pg_name (i := 7) sc_law_pledges_heard.nd rfl (Or.inl rfl)) (pgs_cons (pg_name (i := 8) sc_law_pledges_heard.nd rfl (Or.inl rfl)) pgs_nil))) (fun _ _ _ _ _ => pts_nil) (fun _ _ _ _ _ => (pv 7)))
    (pss_cons (ps_set (i := 9) sc_law_pledges_heard.nd rfl (Or.inl rfl) (pe_callTy call_tuple_of (by rfl) T.tuple (by decide +kernel) (pa_cons (pv 3) pa_nil)))
    (pss_cons (ps_set (i := 10) sc_law_pledges_heard.nd rfl (Or.inl rfl) (pe_lst pa_nil))
    (pss_cons (ps_for PassesOwn.never rfl (pi_range1 (by rfl) T.range (pa_cons (pe_callB call_len_seq (by rfl) T.len (by decide +kernel) (pa_cons (pv 2) pa_nil)) pa_nil)) (pg_name (i := 11) sc_law_pledges_heard.nd rfl (Or.inl rfl))
    (pss_cons (ps_set (i := 7) sc_law_pledges_heard.nd rfl (Or.inr rfl) (pe_ix ix_list (pv 2) (pv 11) (fun _ _ => rfl)))
    (pss_cons (ps_set (i := 12) sc_law_pledges_heard.nd rfl (Or.inl rfl) (pe_callTy call_int1 (by rfl) T.int (by decide +kernel) (pa_cons (pe_cmpR u_in (pv 7) (pv 4) (by rfl)) pa_nil)))
    (pss_cons (ps_set (i := 8) sc_law_pledges_heard.nd rfl (Or.inl rfl) (pe_ix ix_list (pe_lc (own := [("pair", 13)]) (g := gName 13)  (by rfl) sc_law_pledges_heard.nd (pi_list (pv 3)) (blkOk_by (N := ["one", "number", "order", "went", "more", "late", "living", "seat", "often", "served", "letters", "k", "wants", "pair", "told", "line", "due"]) (sc := defScope s_law_pledges_heard) (by decide +kernel)) (fun _ _ _ _ _ => pg_name (i := 13) sc_law_pledges_heard.nd rfl (Or.inl rfl)) (fun _ _ _ _ _ => pts_one (pt_cmpR op_eq (pe_ix (ix_tupK K) (pv 13) pe_int (fun _ _ => rfl)) (pv 7) (nomark _))) (fun _ _ _ _ _ => (pe_ix (ix_tupK K) (pv 13) pe_int (fun _ _ => rfl)))) pe_int (fun _ _ => rfl)))
    (pss_cons (ps_set (i := 14) sc_law_pledges_heard.nd rfl (Or.inl rfl) (pe_tup (pa_cons (pe_op op_add (pv 8) (pv 12)) (pa_cons (pv 12) pa_nil))))
    (pss_cons (ps_if (PW.pt (pw_and (pt_cmpR u_notin (pv 7) (pe_slice sl_list (pv 5) po_none (po_some pe_int)) (by rfl)) (pw_and1 (pt_not (pt_val (pe_cal C_elder_heard free (hr.mono (by decide)) (pa_cons (pv 0) (pa_cons (pv 1) (pa_cons (pv 7) (pa_cons (pv 14) pa_nil))))))))))
    (pss_one (ps_ret pe_bl))
    pss_nil)
    (pss_cons (ps_if (PW.pt (pw_or (pt_cmpR (op_neD (u64 hr)) (pv 10) (pe_lst pa_nil) (nomark _)) (pw_or (pt_cmpR op_notN (pe_meth0 (pv 0) S.cl mB GB hr2 bB .nil pass0) pe_non (nomark _)) (pw_or1 (pt_cmpR (op_neD (u64 hr)) (pe_callB cr_sortedI (by rfl) T.sorted (by decide +kernel) (pa_cons (pe_meth0 (pv 0) S.cl mW GW hr1 bW .nil pass0) pa_nil)) (pe_callB cr_sortedI (by rfl) T.sorted (by decide +kernel) (pa_cons (pe_slice sl_list (pv 2) (po_some (pv 11)) po_none) pa_nil)) (nomark _))))))
    (pss_one (ps_ret pe_bl))
    pss_nil)
    (pss_one (ps_set (i := 10) sc_law_pledges_heard.nd rfl (Or.inl rfl) (pe_meth (pv 0) S.cl mH GH hr6 bH .nil pass0 (pa_cons (pv 7) (pa_cons (pe_tup (pa_cons pe_str (pa_cons (pv 1) (pa_cons (pe_op op_add (pv 8) (pv 12)) (pa_cons (pv 12) (pa_cons pe_int pa_nil)))))) pa_nil))))))))))))
    (pss_cons (ps_set (i := 15) sc_law_pledges_heard.nd rfl (Or.inl rfl) (pe_cal C_line free (hr.mono (by decide)) (pa_cons (pv 0) (pa_cons (pv 6) (pa_cons (pv 4) pa_nil)))))
    (pss_cons (ps_if (PW.pt (pw_or (pt_cmpR (op_neD (u64 hr)) (pe_meth0 (pv 0) S.cl mW GW hr1 bW .nil pass0) (pe_lst pa_nil) (nomark _)) (pw_or1 (pt_not (pt_val (pe_cal C_made free (hr.mono (by decide)) (pa_cons (pv 0) (pa_cons (pv 1) (pa_cons (pv 9) (pa_cons (pv 15) (pa_cons (pv 10) pa_nil)))))))))))
    (pss_one (ps_ret pe_bl))
    pss_nil)
    (pss_cons (ps_if (PW.pt (pw_and (pt_cmpR (op_eqD (u64 hr)) (pv 4) (pe_lst pa_nil) (nomark _)) (pw_and1 (pt_cmpR (op_neD (u64 hr)) (pv 2) (pe_lst pa_nil) (nomark _)))))
    (pss_cons (ps_set (i := 8) sc_law_pledges_heard.nd rfl (Or.inl rfl) (pe_ix ix_list (pe_lc (own := [("pair", 13)]) (g := gName 13)  (by rfl) sc_law_pledges_heard.nd (pi_list (pv 3)) (blkOk_by (N := ["one", "number", "order", "went", "more", "late", "living", "seat", "often", "served", "letters", "k", "wants", "pair", "told", "line", "due"]) (sc := defScope s_law_pledges_heard) (by decide +kernel)) (fun _ _ _ _ _ => pg_name (i := 13) sc_law_pledges_heard.nd rfl (Or.inl rfl)) (fun _ _ _ _ _ => pts_one (pt_cmpR op_eq (pe_ix (ix_tupK K) (pv 13) pe_int (fun _ _ => rfl)) (pe_ix (ix_listK K) (pv 2) pe_int (fun _ _ => rfl)) (nomark _))) (fun _ _ _ _ _ => (pe_ix (ix_tupK K) (pv 13) pe_int (fun _ _ => rfl)))) pe_int (fun _ _ => rfl)))
    (pss_cons (ps_set (i := 16) sc_law_pledges_heard.nd rfl (Or.inl rfl) (pe_lst (pa_cons (pe_tup (pa_cons (pe_ix ix_list (pv 2) pe_int (fun _ _ => rfl)) (pa_cons (pe_tup (pa_cons pe_str (pa_cons (pv 1) (pa_cons (pv 9) (pa_cons (pe_tup pa_nil) pa_nil))))) pa_nil))) pa_nil)))
    (pss_one (ps_ret (pe_and (pe_cmpR (op_eqD (u64 hr)) (pe_meth (pv 0) S.cl mH GH hr6 bH .nil pass0 (pa_cons (pe_ix ix_list (pv 2) pe_int (fun _ _ => rfl)) (pa_cons (pe_tup (pa_cons pe_str (pa_cons (pe_op op_add (pv 8) pe_int) pa_nil))) pa_nil))) (pv 16) (nomark _)) (pe_one (pe_cmpR op_isN (pe_meth0 (pv 0) S.cl mB GB hr2 bB .nil pass0) pe_non (nomark _))))))))
    pss_nil)
    (pss_one (ps_ret pe_bl))))))))), ?_⟩
  have lhs : hs.length = W.length := by rw [dps_len dw, List.length_map]
  have lls : ls.length ≤ 60 := by
    have nd : ls.Nodup := PT.up.imp fun h => by omega
    have p : ls.Perm ((rangeI n).filter fun m => decide (m ∈ ls)) := (List.perm_ext_iff_of_nodup nd ((rangeI_nd n).filter _)).mpr fun m => by
      rw [List.mem_filter, rangeI_mem, decide_eq_true_eq]
      exact ⟨fun hm => ⟨PT.bnd m hm, hm⟩, fun hm => hm.2⟩
    have l1 := List.length_filter_le (fun m => decide (m ∈ ls)) (rangeI n)
    have := PT.n1
    rw [← p.length_eq, rangeI_len] at l1
    omega
  have ndl : ls.Nodup := PT.up.imp fun h => by omega
  have ndW : (W.map (·.1)).Nodup := by rw [PT.fst]; exact ndl
  have lW : W.length = ls.length := by rw [← PT.fst, List.length_map]
  refine ⟨_, rfl, wa, rfl, ⟨_, SqL.of kw⟩, fun D hD => ?_⟩
  refine lc_list (K := K) (a := wa) (xs := hs) (fun i G => Same H G ∧ G D = some (.lst (((W.map (·.1)).take i).map V.int))) ⟨same_upd hD, upd_same⟩ (fun i G _ h => SqL.of (h.1 _ _ kw)) ?_ ?_
  · rintro i x G hx ⟨sG, kD⟩
    obtain ⟨pr, er, dp⟩ := dps_at' (dps_same sG _ _ dw) hx
    obtain ⟨t, v1, v2, rfl, qt, d1, d2⟩ := two_dp dp
    cases d1
    cases d2
    have li := (List.getElem?_eq_some_iff.mp er).1
    refine ⟨t, _, rfl, qt, rfl, _, _, rfl, _, _, rfl, rfl, rfl, lc_yes ?_⟩
    refine ⟨_, rfl, _, kD, ?_, fun a o e => ?_, ?_⟩
    · rw [List.length_map]
      exact Nat.lt_of_lt_of_le (show _ < 200 from Nat.lt_of_le_of_lt (List.length_take_le _ _) (by omega)) (by decide)
    · rw [upd_ne (ne_of_none e hD)]
      exact sG _ _ e
    · rw [List.take_succ, List.getElem?_map, er, List.map_append]
      exact upd_same
  rintro G1 ⟨s1, kD1⟩
  rw [List.take_of_length_le (by rw [List.length_map]; omega), PT.fst] at kD1
  have kw1 := s1 _ _ kw
  refine ⟨_, rfl, wa, _, rfl, .inl ⟨SqL.of kw1, fun sv hsv => ?_⟩⟩
  have s2 := same_upd (o := .tup hs) hsv
  have dsv : Dp K (upd G1 sv (.tup hs)) (.ref sv) (.tuple (W.map pairD)) := .tup (SqT.of upd_same) (dps_same (s1.trans s2) _ _ dw)
  obtain ⟨G2, e2⟩ : ∃ G2, G2 = upd G1 sv (.tup hs) := ⟨_, rfl⟩
  rw [← e2] at s2 dsv
  rw [← e2]
  clear e2
  refine ⟨Nat.zero_le _, fun l0 hl0 => ?_⟩
  have s3 := same_upd (o := .lst []) hl0
  have s13 := (s1.trans s2).trans s3
  have ko3 := s13 _ _ ko
  have dsv3 := dp_same s3 _ _ dsv
  have kD3 := s3 _ _ (s2 _ _ kD1)
  have O3 := O.same s13
  have DN : D ≠ c.nu := (ne_of_none O.at_.hn hD).symm
  have kl03 : upd G2 l0 (.lst []) l0 = some (.lst []) := upd_same
  obtain ⟨G3, e3⟩ : ∃ G3, G3 = upd G2 l0 (.lst []) := ⟨_, rfl⟩
  rw [← e3] at dsv3 kD3 O3 kl03 ko3 s13
  rw [← e3]
  clear e3 s3
  have lod : od.length ≤ 60 := by
    have := PT.odp.length_eq
    have h2 := List.length_filter_le (fun s => !decide (s = me)) ls
    unfold othR at this
    omega
  refine ⟨_, rfl, oa, _, rfl, .inl (SqL.of ko3), _, rfl, ?_⟩
  rw [List.length_map]
  refine ⟨by omega, by omega, ?_⟩
  have odm : ∀ m ∈ od, m ∈ ls ∧ m ≠ me := fun m hm => by
    have := List.mem_filter.mp (PT.odp.mem_iff.mp hm)
    exact ⟨this.1, by simpa using this.2⟩
  have ndo : od.Nodup := PT.odp.nodup_iff.mpr (ndl.filter _)
  have lop := List.length_pos_iff.mpr PT.ne
  refine for_range (lo := 0) (n := _) (fun i σ G => ∃ (z7 z8 z11 z12 z13 z14 : Option V) (le : Addr) (zs : List V), σ = [some (V.ref c.o), some (V.int g), some (V.ref oa), some (V.ref wa), some (V.ref ma), some (V.ref la), some (V.ref D), z7, z8, some (V.ref sv), some (V.ref le), z11, z12, z13, z14, none, none] ∧ FrN [c.nu] G3 G ∧
    G le = some (.lst zs) ∧ le ≠ c.nu ∧ ((i < od.length ∧ zs = [] ∧ ∃ kvs, OnAt K G C n me .non { c with kvs := kvs, ps := psK me W od i }) ∨ (i = od.length ∧ FinP K G C CK n me g c ls mo W zs))) ⟨_, _, _, _, _, _, l0, [], rfl, Same.frn (Same.refl _), kl03, (ne_of_none (O.same (s1.trans s2)).at_.hn hl0).symm, .inl ⟨lop, rfl, c.kvs, by
      have : { c with kvs := c.kvs, ps := psK me W od 0 } = c := by
        show { c with kvs := c.kvs, ps := [(me, 0)] } = c
        rw [← eps]
      rw [this]
      exact O3⟩⟩ ?_ ?_
  · rintro i σ G hi ⟨z7, z8, z11, z12, z13, z14, le, zs, rfl, fG, kle, nle, st⟩
    obtain ⟨zs0, kvs, OG⟩ : zs = [] ∧ ∃ kvs, OnAt K G C n me .non { c with kvs := kvs, ps := psK me W od i } := by
      rcases st with ⟨_, h1, h2⟩ | ⟨h, _⟩
      · exact ⟨h1, h2⟩
      · omega
    subst zs0
    clear st
    have hi : i < od.length := hi
    have fH : FrN [c.nu] H G := (Same.frn s13).trans fG
    have kwG := lst_frn fH kw (by simpa using nw)
    have koG := lst_frn fH ko (by simpa using no)
    have kmG := lst_frn fH km (by simpa using nm)
    have klG := lst_frn fH kl (by simpa using nl)
    have dwG := dps_kt (fun a xs => sqt_frn fH) _ _ (noLs_pairs W) dw
    obtain ⟨s', hs'⟩ : ∃ s', od[i]? = some s' := ⟨od[i], List.getElem?_eq_getElem hi⟩
    obtain ⟨sls, sne⟩ := odm s' (List.mem_of_getElem? hs')
    have sW : s' ∈ W.map (·.1) := by rw [PT.fst]; exact sls
    have ato : atI (od.map V.int) (0 + (i : Int)) = some (.int s') := by
      rw [Int.zero_add]
      exact atI_nat (by rw [List.getElem?_map, hs']; rfl)
    refine ⟨_, rfl, _, rfl, oa, _, _, _, rfl, rfl, SqL.of koG, ato, ?_⟩
    refine ⟨_, rfl, _, rfl, .inl ⟨ma, _, rfl, .inl (SqL.of kmG), rfl, flat_ints _, ?_⟩⟩
    rw [inV_ints]
    refine .inr ⟨decide (s' ∈ mo), rfl, ?_⟩
    rw [show (if decide (s' ∈ mo) = true then (1 : Int) else 0) = wantsI mo s' by unfold wantsI; simp]
    refine ⟨_, rfl, wa, rfl, ⟨_, SqL.of kwG⟩, fun D2 hD2 => ?_⟩
    refine lc_list (K := K) (a := wa) (xs := hs) (fun i G9 => Same G G9 ∧ G9 D2 = some (.lst ((((W.take i).filter fun p => decide (p.1 = s')).map (·.2)).map V.int))) ⟨same_upd hD2, upd_same⟩ (fun i G9 _ h => SqL.of (h.1 _ _ kwG)) ?_ ?_
    · rintro i2 x G9 hx ⟨sG, kD⟩
      obtain ⟨pr, er, dp⟩ := dps_at' (dps_same sG _ _ dwG) hx
      obtain ⟨t, v1, v2, rfl, qt, d1, d2⟩ := two_dp dp
      cases d1
      cases d2
      have li := (List.getElem?_eq_some_iff.mp er).1
      refine ⟨rfl, ?_⟩
      refine ⟨_, rfl, t, _, _, _, rfl, rfl, qt, atI_nat (j := 0) rfl, _, rfl, rfl, _, rfl, ?_⟩
      rw [dec_ii, filt_next _ er]
      refine ite2 (fun c4 => ?_) (fun c4 => ?_)
      · rw [if_pos c4]
        refine ⟨_, rfl, t, _, _, _, rfl, rfl, qt, atI_nat (j := 1) rfl, _, kD, ?_, fun a o e => ?_, ?_⟩
        · rw [List.length_map, List.length_map]
          have h1 := List.length_filter_le (fun p : Int × Int => decide (p.1 = s')) (W.take i2)
          rw [List.length_take] at h1
          exact Nat.lt_of_lt_of_le (show _ < 200 by omega) (by decide)
        · rw [upd_ne (ne_of_none e hD2)]
          exact sG _ _ e
        · rw [List.map_append, List.map_append]
          exact upd_same
      · rw [if_neg c4, List.append_nil]
        exact ⟨sG, kD⟩
    rintro G4 ⟨s4, kD2⟩
    rw [List.take_of_length_le (by omega), one_filt ndW sW] at kD2
    refine ⟨D2, _, _, .int (oweF W s'), rfl, rfl, SqL.of kD2, atI_nat (j := 0) rfl, ?_⟩
    refine ⟨_, rfl, _, rfl, _, _, rfl, rfl, _, rfl, by show 2 ≤ sizeLine; decide, fun tl htl => ?_⟩
    have s5 := same_upd (o := .tup [.int (oweF W s' + wantsI mo s'), .int (wantsI mo s')]) htl
    have s45 := s4.trans s5
    have ktl : SqT K (upd G4 tl (.tup [.int (oweF W s' + wantsI mo s'), .int (wantsI mo s')])) tl [.int (oweF W s' + wantsI mo s'), .int (wantsI mo s')] := SqT.of upd_same
    refine ⟨_, rfl, _, rfl, _, rfl, la, _, rfl, SqL.of (s45 _ _ klG), fun x1 hx1 => ?_⟩
    rw [cut01g]
    have s6 := same_upd (o := .lst ((lt.take 1).map V.int)) hx1
    have s46 := s45.trans s6
    have ktl6 := sqt_same s6 ktl
    refine .inl ⟨x1, _, rfl, .inl (SqL.of upd_same), rfl, flat_ints _, _, rfl, ?_⟩
    rw [inV_ints]
    have ki : ∀ (i : Nat) (m : Int), m ∈ awF ls (psK me W od i) ↔ m ∈ od.drop i := fun i m => by
      unfold awF psK
      rw [List.mem_filter, List.map_cons, List.map_map, show (Prod.fst ∘ fun m => (m, oweF W m)) = (id : Int → Int) from rfl, List.map_id]
      have h1 : m ∈ od ↔ m ∈ ls ∧ m ≠ me := by
        rw [PT.odp.mem_iff]
        unfold othR
        rw [List.mem_filter]
        simp
      have h2 : m ∈ od ↔ m ∈ od.take i ∨ m ∈ od.drop i := by
        conv => lhs; rw [← List.take_append_drop i od]
        exact List.mem_append
      have h3 : m ∈ od.take i → m ∉ od.drop i := fun a b => by
        have nd := ndo
        rw [← List.take_append_drop i od, List.nodup_append] at nd
        exact nd.2.2 m a m b rfl
      simp only [List.mem_cons, decide_not, Bool.not_eq_true', decide_eq_false_iff_not, not_or]
      constructor
      · rintro ⟨a, b, d⟩
        exact (h2.mp (h1.mpr ⟨a, b⟩)).resolve_left d
      · intro a
        have b := h1.mp (h2.mpr (.inr a))
        exact ⟨b.1, b.2, fun d => h3 d a⟩
    have psf : (psK me W od i).map (·.1) = me :: od.take i := by unfold psK; rw [List.map_cons, List.map_map]; exact congrArg _ (List.map_id _)
    have snt : s' ∉ od.take i := fun z => by
      obtain ⟨j2, lj, ej⟩ := List.mem_take_iff_getElem.mp z
      have h1 : od[j2]? = some s' := by rw [List.getElem?_eq_getElem (by omega), ej]
      have := (List.getElem?_inj (by omega) ndo).mp (h1.trans hs'.symm)
      omega
    have psn : psK me W od i ++ [(s', oweF W s' + wantsI mo s' - wantsI mo s')] = psK me W od (i + 1) := by
      unfold psK
      rw [List.take_succ, hs', Int.add_sub_cancel]
      simp
    have bs := PT.bnd s' sls
    have lea : learn (msF n c.f) s' (oweF W s' + wantsI mo s') = msF n c.f := by
      rw [learn_F bs.1 bs.2]
      congr 1
      funext m
      unfold updI
      split
      · next e => rw [e, PT.f s' sls]; split <;> omega
      · rfl
    have n1 := PT.m1
    have n0 := PT.m0
    refine ite2 (fun cl => ?_) (fun cl => ?_)
    · have OE := OG.same s46
      refine ⟨_, rfl, _, rfl, _, rfl, _, rfl, c.o, tl, n, me, g, s', oweF W s' + wantsI mo s', wantsI mo s', { c with kvs := kvs, ps := psK me W od i }, rfl, rfl, OE, PT.bg, by have := PT.g0; omega, PT.g1, ktl6, fun GE sEl => ?_⟩
      refine ⟨_, rfl, iteF' rfl ?_⟩
      have s6x := s46.trans sEl
      have kle6 := s6x _ _ kle
      have O6 := OG.same s6x
      have A6 := O6.at_
      refine ⟨_, rfl, Nat.zero_le _, fun e he => ?_⟩
      have s7 := same_upd (o := .lst []) he
      refine ⟨.list [], .list [], .lst (SqL.of (s7 _ _ kle6)) .nil, .lst (SqL.of upd_same) .nil, by decide, by decide, _, rfl, iteF' (by decide +kernel) ?_⟩
      have A7 := A6.same s7
      refine ⟨_, rfl, c.o, c.dx, _, rfl, A7.hp, (A7.no "bears").2, _, _, _, _, _, _, _, _, _, _, _, _, _, rfl, A7, .inl ⟨rfl, rfl, _, rfl, iteF' rfl ?_⟩⟩
      refine ⟨_, rfl, c.o, c.dx, _, rfl, A7.hp, (A7.no "awaits").2, c.o, c.dx, me, c.st, c.rnd, c.ro, c.nu, .non, c.bg, c.pl, c.rs, _, kvs, _, rfl, A7, O6.pl_.keys, by rw [PT.rs]; exact lls, .inr ⟨⟨g, PT.bg⟩, fun l5 H9 s9 hl5 kl5 => ?_⟩⟩
      refine ⟨l5, _, rfl, SqL.of kl5, fun ys1 p1 pe1 up1 hp1 => ?_⟩
      have s10 := same_upd (o := .lst (ys1.map V.int)) hp1
      have s710 := ((s6x.trans s7).trans s9).trans s10
      refine ⟨_, rfl, _, rfl, _, rfl, oa, _, rfl, SqL.of (s710 _ _ koG), fun x2 hx2 => ?_⟩
      rw [show (0 : Int) + (i : Int) = ((i : Nat) : Int) by omega, cut_drop (by omega) (by rw [List.length_map]; omega), Int.toNat_natCast, ← List.map_drop]
      have s11 := same_upd (o := .lst ((od.drop i).map V.int)) hx2
      refine ⟨x2, _, rfl, SqL.of upd_same, fun ys2 p2 pe2 up2 hp2 => ?_⟩
      have s12 := same_upd (o := .lst (ys2.map V.int)) hp2
      have eY : ys1 = ys2 := by
        have pp : ys1.Perm ys2 := pe1.trans (((List.perm_ext_iff_of_nodup (by rw [PT.rs]; exact ndl.filter _) (ndo.sublist (List.drop_sublist _ _))).mpr (by rw [PT.rs]; exact ki i)).trans pe2.symm)
        exact List.Perm.eq_of_pairwise (fun a b _ _ (h1 : a ≤ b) h2 => Int.le_antisymm h1 h2) up1 up2 pp
      subst eY
      refine ⟨_, _, dp_ints ((s11.trans s12) _ _ upd_same), dp_ints upd_same, shaped_ints _, shaped_ints _, _, rfl, iteF' (eq_bl (eqv_shaped (shaped_ints _))) ?_⟩
      have sE := (s710.trans s11).trans s12
      have OE2 := OG.same sE
      have AE := OE2.at_
      refine ⟨_, rfl, c.o, c.dx, _, rfl, AE.hp, (AE.no "hear").2, _, rfl, _, rfl, _, rfl, _, rfl, _, _, rfl, rfl, _, rfl, by show 5 ≤ sizeLine; decide, fun lp hlp => ?_⟩
      have sP := same_upd (o := .tup [.str "pledge", .int g, .int (oweF W s' + wantsI mo s'), .int (wantsI mo s'), .int 0]) hlp
      have OP := OE2.same sP
      have AP := OP.at_
      have AP' := AP
      change CalAt _ C c.o c.dx me c.st c.rnd c.ro c.nu .non c.bg c.pl c.rs (msF n c.f) kvs at AP'
      rw [PT.bg] at AP'
      refine ⟨c.o, c.dx, lp, s', _, rfl, AP.hp, (AP.no "_hear_ask").2, (AP.no "_hear_pledge").2, .inr ⟨_, SqT.of upd_same, c.o, c.dx, lp, c.ro, c.nu, c.pl, me, c.rnd, g, s', g, oweF W s' + wantsI mo s', wantsI mo s', c.st, c.rs, msF n c.f, kvs, psK me W od i, rfl, AP', OP.pl_, SqT.of upd_same, .inr ⟨rfl, (PT.bnd s' sls).1, by have := PT.bnd s' sls; rw [msF_len]; omega, OP.rn, ?_, ?_, by rw [PT.rs]; exact ndl, fun m hm => by rw [PT.rs] at hm; have := PT.bnd m hm; rw [msF_len]; omega, by rw [PT.rs]; exact lls, ?_⟩⟩⟩
      · rw [psf]
        simp [sne, snt]
      · unfold psK
        rw [List.length_cons, List.length_map, List.length_take]
        omega
      rw [PT.rs, lea, psn]
      rw [PT.rs] at AP'
      have fP := fG.trans (Same.frn (sE.trans sP))
      by_cases more1 : i + 1 < od.length
      · refine .inl ⟨fun z => ?_, fun z kv2 HB ch AB PB kz => ?_⟩
        · have : od[i + 1] ∈ awF ls (psK me W od (i + 1)) := (ki (i + 1) _).mpr (List.mem_drop_iff_getElem.mpr ⟨0, by omega, by simp⟩)
          rw [z] at this
          exact absurd this List.not_mem_nil
        · have fB := OP.frn ch fun a ha => by
            simp only [List.mem_cons, List.not_mem_nil, or_false] at ha
            rcases ha with h | h
            · exact .inr (.inl h)
            · exact .inr (.inr h)
          have zn : z ≠ c.nu := fun e => by
            rw [e, AB.hn] at kz
            have h2 := Option.some.inj kz
            injection h2 with h3
            have h4 := congrArg List.length h3
            rw [List.length_map, msF_len, List.length_nil] at h4
            omega
          refine ⟨_, _, _, _, _, _, z, [], rfl, fP.trans fB, kz, zn, .inl ⟨more1, rfl, kv2, ⟨?_, PB, OG.rn⟩⟩⟩
          show CalAt HB C c.o c.dx me c.st c.rnd c.ro c.nu .non c.bg c.pl ls (msF n c.f) kv2
          rw [PT.bg]
          exact AB
      · refine .inr ⟨?_, fun kv2 hk => ?_⟩
        · refine List.eq_nil_iff_forall_not_mem.mpr fun m hm => ?_
          have := (ki (i + 1) m).mp hm
          rw [List.drop_eq_nil_of_le (by omega)] at this
          exact absurd this List.not_mem_nil
        · have eS : (ls.map fun m => (m, oweF (psK me W od (i + 1)) m)) = W := by
            refine (List.map_congr_left fun m hm => ?_).trans (by have := back_owe ndW; rw [PT.fst] at this; exact this)
            rw [owe_psK PT.me0 (by
              by_cases e : m = me
              · exact .inl e
              · refine .inr ?_
                rw [List.take_of_length_le (by omega)]
                refine PT.odp.mem_iff.mpr ?_
                unfold othR
                rw [List.mem_filter]
                exact ⟨hm, by simp [e]⟩)]
          rw [eS, line_W PT.fst PT.bnd PT.f]
          have lr := lineR_me (mo := mo) PT.up PT.mem PT.least
          have toF : ∀ {HB : Hp}, ChgS [c.o, c.nu, c.pl] _ HB → FrN [c.nu] _ HB := fun ch => OP.frn ch fun a ha => by simpa using ha
          have az : awF ls (psK me W od (i + 1)) = [] := by
            refine List.eq_nil_iff_forall_not_mem.mpr fun m hm => ?_
            have := (ki (i + 1) m).mp hm
            rw [List.drop_eq_nil_of_le (by omega)] at this
            exact absurd this List.not_mem_nil
          have znn : ∀ {HB : Hp} {z : Addr}, HB c.nu = some (.lst ((msF n c.f).map V.int)) → HB z = some (.lst []) → z ≠ c.nu := fun h1 h2 e => by
            rw [e, h1] at h2
            have h2 := Option.some.inj h2
            injection h2 with h3
            have h4 := congrArg List.length h3
            rw [List.length_map, msF_len, List.length_nil] at h4
            omega
          refine ⟨fun e z k dk d l HB ch AB KB kz => ?_, fun rest e z k dk d l HB ch AB KB kz => ?_, fun t rest e ne z zs S' HB ch AB p u kz dz => ?_⟩
          · have hst : c.st = "out" := by
              rcases PT.st with ⟨h, _⟩ | ⟨_, h⟩
              · rw [lr, if_pos h] at e
                simp at e
              · exact h
            refine ⟨_, _, _, _, _, _, z, [], rfl, fP.trans (toF ch), kz, znn AB.hn kz, .inr ⟨by omega, { c with kvs := kv2, ps := psK me W od (i + 1), rs := ls }, rfl, rfl, rfl, rfl, PT.rnd, PT.bg, az, O.rn, .inl ⟨e, rfl, hst, k, dk, d, l, ⟨?_, hk⟩, KB⟩⟩⟩
            show CalAt HB C c.o c.dx me c.st c.rnd c.ro c.nu _ c.bg c.pl ls (msF n c.f) kv2
            rw [PT.bg]
            exact AB
          · have er : lineR ls me mo = [me] ∧ rest = [] := by
              rw [lr] at e ⊢
              cases hb : (ls.filter fun m => decide (me < m) && decide (m ∈ mo)) with
              | nil =>
                rw [hb, List.nil_append] at e
                by_cases c2 : me ∈ mo
                · rw [if_pos c2] at e ⊢
                  injection e with _ e2
                  exact ⟨rfl, e2.symm⟩
                · rw [if_neg c2] at e
                  cases e
              | cons x xs =>
                exfalso
                have hx : x ∈ (ls.filter fun m => decide (me < m) && decide (m ∈ mo)) := by rw [hb]; simp
                have h2 : me < x ∧ x ∈ mo := by simpa using (List.mem_filter.mp hx).2
                rw [hb] at e
                injection e with e1 _
                omega
            obtain ⟨e1, e2⟩ := er
            rw [e2] at KB
            refine ⟨_, _, _, _, _, _, z, [], rfl, fP.trans (toF ch), kz, znn AB.hn kz, .inr ⟨by omega, { c with kvs := kv2, ps := psK me W od (i + 1), rs := ls, st := "in" }, rfl, rfl, rfl, rfl, PT.rnd, PT.bg, az, O.rn, .inr (.inl ⟨e1, rfl, rfl, k, dk, d, l, ⟨?_, hk⟩, KB⟩)⟩⟩
            show CalAt HB C c.o c.dx me "in" c.rnd c.ro c.nu _ c.bg c.pl ls (msF n c.f) kv2
            rw [PT.bg]
            exact AB
          · have eS2 := perm_up p u (by rw [PT.fst]; exact PT.up)
            subst eS2
            have zn : z ≠ c.nu := fun e => by
              rw [e, AB.hn] at kz
              have h2 := Option.some.inj kz
              injection h2 with h3
              rw [← h3] at dz
              cases ems : msF n c.f with
              | nil =>
                have h4 := congrArg List.length ems
                rw [msF_len, List.length_nil] at h4
                omega
              | cons x xs =>
                rw [ems, List.map_cons] at dz
                cases dz with
                | cons d1 _ => cases d1
            refine ⟨_, _, _, _, _, _, z, zs, rfl, fP.trans (toF ch), kz, zn, .inr ⟨by omega, { c with kvs := kv2, ps := psK me S' od (i + 1), rs := ls }, rfl, rfl, rfl, rfl, PT.rnd, PT.bg, az, O.rn, .inr (.inr ⟨t, rest, e, ne, ⟨?_, hk⟩, dz⟩)⟩⟩
            show CalAt HB C c.o c.dx me c.st c.rnd c.ro c.nu _ c.bg c.pl ls (msF n c.f) kv2
            rw [PT.bg]
            exact AB
    · refine iteF ?_
      have s6x := s46
      have kle6 := s6x _ _ kle
      have O6 := OG.same s6x
      have A6 := O6.at_
      refine ⟨_, rfl, Nat.zero_le _, fun e he => ?_⟩
      have s7 := same_upd (o := .lst []) he
      refine ⟨.list [], .list [], .lst (SqL.of (s7 _ _ kle6)) .nil, .lst (SqL.of upd_same) .nil, by decide, by decide, _, rfl, iteF' (by decide +kernel) ?_⟩
      have A7 := A6.same s7
      refine ⟨_, rfl, c.o, c.dx, _, rfl, A7.hp, (A7.no "bears").2, _, _, _, _, _, _, _, _, _, _, _, _, _, rfl, A7, .inl ⟨rfl, rfl, _, rfl, iteF' rfl ?_⟩⟩
      refine ⟨_, rfl, c.o, c.dx, _, rfl, A7.hp, (A7.no "awaits").2, c.o, c.dx, me, c.st, c.rnd, c.ro, c.nu, .non, c.bg, c.pl, c.rs, _, kvs, _, rfl, A7, O6.pl_.keys, by rw [PT.rs]; exact lls, .inr ⟨⟨g, PT.bg⟩, fun l5 H9 s9 hl5 kl5 => ?_⟩⟩
      refine ⟨l5, _, rfl, SqL.of kl5, fun ys1 p1 pe1 up1 hp1 => ?_⟩
      have s10 := same_upd (o := .lst (ys1.map V.int)) hp1
      have s710 := ((s6x.trans s7).trans s9).trans s10
      refine ⟨_, rfl, _, rfl, _, rfl, oa, _, rfl, SqL.of (s710 _ _ koG), fun x2 hx2 => ?_⟩
      rw [show (0 : Int) + (i : Int) = ((i : Nat) : Int) by omega, cut_drop (by omega) (by rw [List.length_map]; omega), Int.toNat_natCast, ← List.map_drop]
      have s11 := same_upd (o := .lst ((od.drop i).map V.int)) hx2
      refine ⟨x2, _, rfl, SqL.of upd_same, fun ys2 p2 pe2 up2 hp2 => ?_⟩
      have s12 := same_upd (o := .lst (ys2.map V.int)) hp2
      have eY : ys1 = ys2 := by
        have pp : ys1.Perm ys2 := pe1.trans (((List.perm_ext_iff_of_nodup (by rw [PT.rs]; exact ndl.filter _) (ndo.sublist (List.drop_sublist _ _))).mpr (by rw [PT.rs]; exact ki i)).trans pe2.symm)
        exact List.Perm.eq_of_pairwise (fun a b _ _ (h1 : a ≤ b) h2 => Int.le_antisymm h1 h2) up1 up2 pp
      subst eY
      refine ⟨_, _, dp_ints ((s11.trans s12) _ _ upd_same), dp_ints upd_same, shaped_ints _, shaped_ints _, _, rfl, iteF' (eq_bl (eqv_shaped (shaped_ints _))) ?_⟩
      have sE := (s710.trans s11).trans s12
      have OE2 := OG.same sE
      have AE := OE2.at_
      refine ⟨_, rfl, c.o, c.dx, _, rfl, AE.hp, (AE.no "hear").2, _, rfl, _, rfl, _, rfl, _, rfl, _, _, rfl, rfl, _, rfl, by show 5 ≤ sizeLine; decide, fun lp hlp => ?_⟩
      have sP := same_upd (o := .tup [.str "pledge", .int g, .int (oweF W s' + wantsI mo s'), .int (wantsI mo s'), .int 0]) hlp
      have OP := OE2.same sP
      have AP := OP.at_
      have AP' := AP
      change CalAt _ C c.o c.dx me c.st c.rnd c.ro c.nu .non c.bg c.pl c.rs (msF n c.f) kvs at AP'
      rw [PT.bg] at AP'
      refine ⟨c.o, c.dx, lp, s', _, rfl, AP.hp, (AP.no "_hear_ask").2, (AP.no "_hear_pledge").2, .inr ⟨_, SqT.of upd_same, c.o, c.dx, lp, c.ro, c.nu, c.pl, me, c.rnd, g, s', g, oweF W s' + wantsI mo s', wantsI mo s', c.st, c.rs, msF n c.f, kvs, psK me W od i, rfl, AP', OP.pl_, SqT.of upd_same, .inr ⟨rfl, (PT.bnd s' sls).1, by have := PT.bnd s' sls; rw [msF_len]; omega, OP.rn, ?_, ?_, by rw [PT.rs]; exact ndl, fun m hm => by rw [PT.rs] at hm; have := PT.bnd m hm; rw [msF_len]; omega, by rw [PT.rs]; exact lls, ?_⟩⟩⟩
      · rw [psf]
        simp [sne, snt]
      · unfold psK
        rw [List.length_cons, List.length_map, List.length_take]
        omega
      rw [PT.rs, lea, psn]
      rw [PT.rs] at AP'
      have fP := fG.trans (Same.frn (sE.trans sP))
      by_cases more1 : i + 1 < od.length
      · refine .inl ⟨fun z => ?_, fun z kv2 HB ch AB PB kz => ?_⟩
        · have : od[i + 1] ∈ awF ls (psK me W od (i + 1)) := (ki (i + 1) _).mpr (List.mem_drop_iff_getElem.mpr ⟨0, by omega, by simp⟩)
          rw [z] at this
          exact absurd this List.not_mem_nil
        · have fB := OP.frn ch fun a ha => by
            simp only [List.mem_cons, List.not_mem_nil, or_false] at ha
            rcases ha with h | h
            · exact .inr (.inl h)
            · exact .inr (.inr h)
          have zn : z ≠ c.nu := fun e => by
            rw [e, AB.hn] at kz
            have h2 := Option.some.inj kz
            injection h2 with h3
            have h4 := congrArg List.length h3
            rw [List.length_map, msF_len, List.length_nil] at h4
            omega
          refine ⟨_, _, _, _, _, _, z, [], rfl, fP.trans fB, kz, zn, .inl ⟨more1, rfl, kv2, ⟨?_, PB, OG.rn⟩⟩⟩
          show CalAt HB C c.o c.dx me c.st c.rnd c.ro c.nu .non c.bg c.pl ls (msF n c.f) kv2
          rw [PT.bg]
          exact AB
      · refine .inr ⟨?_, fun kv2 hk => ?_⟩
        · refine List.eq_nil_iff_forall_not_mem.mpr fun m hm => ?_
          have := (ki (i + 1) m).mp hm
          rw [List.drop_eq_nil_of_le (by omega)] at this
          exact absurd this List.not_mem_nil
        · have eS : (ls.map fun m => (m, oweF (psK me W od (i + 1)) m)) = W := by
            refine (List.map_congr_left fun m hm => ?_).trans (by have := back_owe ndW; rw [PT.fst] at this; exact this)
            rw [owe_psK PT.me0 (by
              by_cases e : m = me
              · exact .inl e
              · refine .inr ?_
                rw [List.take_of_length_le (by omega)]
                refine PT.odp.mem_iff.mpr ?_
                unfold othR
                rw [List.mem_filter]
                exact ⟨hm, by simp [e]⟩)]
          rw [eS, line_W PT.fst PT.bnd PT.f]
          have lr := lineR_me (mo := mo) PT.up PT.mem PT.least
          have toF : ∀ {HB : Hp}, ChgS [c.o, c.nu, c.pl] _ HB → FrN [c.nu] _ HB := fun ch => OP.frn ch fun a ha => by simpa using ha
          have az : awF ls (psK me W od (i + 1)) = [] := by
            refine List.eq_nil_iff_forall_not_mem.mpr fun m hm => ?_
            have := (ki (i + 1) m).mp hm
            rw [List.drop_eq_nil_of_le (by omega)] at this
            exact absurd this List.not_mem_nil
          have znn : ∀ {HB : Hp} {z : Addr}, HB c.nu = some (.lst ((msF n c.f).map V.int)) → HB z = some (.lst []) → z ≠ c.nu := fun h1 h2 e => by
            rw [e, h1] at h2
            have h2 := Option.some.inj h2
            injection h2 with h3
            have h4 := congrArg List.length h3
            rw [List.length_map, msF_len, List.length_nil] at h4
            omega
          refine ⟨fun e z k dk d l HB ch AB KB kz => ?_, fun rest e z k dk d l HB ch AB KB kz => ?_, fun t rest e ne z zs S' HB ch AB p u kz dz => ?_⟩
          · have hst : c.st = "out" := by
              rcases PT.st with ⟨h, _⟩ | ⟨_, h⟩
              · rw [lr, if_pos h] at e
                simp at e
              · exact h
            refine ⟨_, _, _, _, _, _, z, [], rfl, fP.trans (toF ch), kz, znn AB.hn kz, .inr ⟨by omega, { c with kvs := kv2, ps := psK me W od (i + 1), rs := ls }, rfl, rfl, rfl, rfl, PT.rnd, PT.bg, az, O.rn, .inl ⟨e, rfl, hst, k, dk, d, l, ⟨?_, hk⟩, KB⟩⟩⟩
            show CalAt HB C c.o c.dx me c.st c.rnd c.ro c.nu _ c.bg c.pl ls (msF n c.f) kv2
            rw [PT.bg]
            exact AB
          · have er : lineR ls me mo = [me] ∧ rest = [] := by
              rw [lr] at e ⊢
              cases hb : (ls.filter fun m => decide (me < m) && decide (m ∈ mo)) with
              | nil =>
                rw [hb, List.nil_append] at e
                by_cases c2 : me ∈ mo
                · rw [if_pos c2] at e ⊢
                  injection e with _ e2
                  exact ⟨rfl, e2.symm⟩
                · rw [if_neg c2] at e
                  cases e
              | cons x xs =>
                exfalso
                have hx : x ∈ (ls.filter fun m => decide (me < m) && decide (m ∈ mo)) := by rw [hb]; simp
                have h2 : me < x ∧ x ∈ mo := by simpa using (List.mem_filter.mp hx).2
                rw [hb] at e
                injection e with e1 _
                omega
            obtain ⟨e1, e2⟩ := er
            rw [e2] at KB
            refine ⟨_, _, _, _, _, _, z, [], rfl, fP.trans (toF ch), kz, znn AB.hn kz, .inr ⟨by omega, { c with kvs := kv2, ps := psK me W od (i + 1), rs := ls, st := "in" }, rfl, rfl, rfl, rfl, PT.rnd, PT.bg, az, O.rn, .inr (.inl ⟨e1, rfl, rfl, k, dk, d, l, ⟨?_, hk⟩, KB⟩)⟩⟩
            show CalAt HB C c.o c.dx me "in" c.rnd c.ro c.nu _ c.bg c.pl ls (msF n c.f) kv2
            rw [PT.bg]
            exact AB
          · have eS2 := perm_up p u (by rw [PT.fst]; exact PT.up)
            subst eS2
            have zn : z ≠ c.nu := fun e => by
              rw [e, AB.hn] at kz
              have h2 := Option.some.inj kz
              injection h2 with h3
              rw [← h3] at dz
              cases ems : msF n c.f with
              | nil =>
                have h4 := congrArg List.length ems
                rw [msF_len, List.length_nil] at h4
                omega
              | cons x xs =>
                rw [ems, List.map_cons] at dz
                cases dz with
                | cons d1 _ => cases d1
            refine ⟨_, _, _, _, _, _, z, zs, rfl, fP.trans (toF ch), kz, zn, .inr ⟨by omega, { c with kvs := kv2, ps := psK me S' od (i + 1), rs := ls }, rfl, rfl, rfl, rfl, PT.rnd, PT.bg, az, O.rn, .inr (.inr ⟨t, rest, e, ne, ⟨?_, hk⟩, dz⟩)⟩⟩
            show CalAt HB C c.o c.dx me c.st c.rnd c.ro c.nu _ c.bg c.pl ls (msF n c.f) kv2
            rw [PT.bg]
            exact AB
  rintro σ G ⟨z7, z8, z11, z12, z13, z14, le, zs, rfl, fG, kle, nle, st⟩
  obtain ⟨c9, eo, en, ef, er, em, eb, az, rn9, three⟩ : FinP K G C CK n me g c ls mo W zs := by
    rcases st with ⟨h, _⟩ | ⟨_, h⟩
    · omega
    · exact h
  clear st
  have fH : FrN [c.nu] H G := (Same.frn s13).trans fG
  have koG := lst_frn fH ko (by simpa using no)
  have kmG := lst_frn fH km (by simpa using nm)
  have kDG := lst_frn fG kD3 (by simpa using DN)
  have dsvG := dp_kt (fun a xs => sqt_frn fG) _ _ (noL_pairs W) dsv3
  obtain ⟨key, OK9⟩ : ∃ key, OnK G C n me key c9 := by
    rcases three with ⟨_, _, _, k, _, _, _, h, _⟩ | ⟨_, _, _, k, _, _, _, h, _⟩ | ⟨_, _, _, _, h, _⟩ <;> exact ⟨_, h⟩
  rw [← eo]
  refine ⟨_, rfl, _, rfl, _, rfl, c9.o, D, ma, n, me, key, c9, ls, mo, rfl, rfl, OK9, kDG, kmG, lls, fun li H1 t1 hli kli => ?_⟩
  have A1 := (OK9.same t1).at_
  refine ⟨_, rfl, c9.o, c9.dx, _, rfl, A1.hp, (A1.no "awaits").2, c9.o, c9.dx, me, c9.st, c9.rnd, c9.ro, c9.nu, key, c9.bg, c9.pl, c9.rs, _, c9.kvs, c9.ps, rfl, A1, OK9.keys, by rw [er]; exact lls, .inr ⟨⟨g, eb⟩, fun l5 H2 t2 hl5 kl5 => ?_⟩⟩
  rw [er, az] at kl5
  refine ⟨Nat.zero_le _, fun e he => ?_⟩
  have t3 := same_upd (o := .lst []) he
  refine ⟨.list [], .list [], .lst (SqL.of (t3 _ _ kl5)) .nil, .lst (SqL.of upd_same) .nil, by decide, by decide, _, rfl, iteF' (by decide +kernel) ?_⟩
  have t13 := (t1.trans t2).trans t3
  have lln : (lineR ls me mo).length ≤ 200 := by
    unfold lineR
    rw [List.length_append]
    have h1 := List.length_filter_le (fun m => decide (me < m) && decide (m ∈ mo)) ls
    have h2 := List.length_filter_le (fun m => decide (m ≤ me) && decide (m ∈ mo)) ls
    omega
  refine ⟨_, rfl, _, rfl, _, rfl, _, rfl, _, rfl, c9.o, sv, li, le, n, me, g, c9, W, lineR ls me mo, zs, rfl, rfl, dp_same t13 _ _ dsvG, (t2.trans t3) _ _ kli, t13 _ _ kle, by rw [PT.fst]; exact PT.up, lln, ?_, fun H4 t4 => ?_⟩
  · rcases three with ⟨a, b, d, k, dk, dd, l, h, KA⟩ | ⟨a, b, d, k, dk, dd, l, h, KA⟩ | ⟨t, rest, a, b, h, dz⟩
    · exact .inl ⟨a, b, d, k, dk, dd, l, h.same t13, KA.same t13⟩
    · exact .inr (.inl ⟨a, b, d, k, dk, dd, l, h.same t13, KA.same t13⟩)
    · exact .inr (.inr ⟨t, rest, a, b, h.same t13, dps_same t13 _ _ dz⟩)
  refine ⟨_, rfl, iteF' rfl ?_⟩
  have t14 := t13.trans t4
  have km4 := t14 _ _ kmG
  refine ⟨_, rfl, Nat.zero_le _, fun e5 he5 => ?_⟩
  have t5 := same_upd (o := .lst []) he5
  refine ⟨.list (mo.map PyData.int), .list [], dp_ints (t5 _ _ km4), .lst (SqL.of upd_same) .nil, shaped_ints _, by decide, _, rfl, ?_⟩
  rw [eqv_nilI]
  have t15 := t14.trans t5
  by_cases m0 : mo = []
  · refine iteT' (decide_eq_true m0) ?_
    have ko5 := t15 _ _ koG
    refine ⟨_, rfl, Nat.zero_le _, fun e6 he6 => ?_⟩
    have t6 := same_upd (o := .lst []) he6
    refine ⟨.list (od.map PyData.int), .list [], dp_ints (t6 _ _ ko5), .lst (SqL.of upd_same) .nil, shaped_ints _, by decide, _, rfl, ?_⟩
    rw [eqv_nilI]
    refine iteT' (by rw [decide_eq_false PT.ne]; rfl) ?_
    obtain ⟨o0, ot, eod⟩ : ∃ o0 ot, od = o0 :: ot := by
      cases h : od with
      | nil => exact absurd h PT.ne
      | cons x xs => exact ⟨x, xs, rfl⟩
    have t16 := t15.trans t6
    have f6 := fH.trans (Same.frn t16)
    have kw6 := lst_frn f6 kw (by simpa using nw)
    have ko6 := lst_frn f6 ko (by simpa using no)
    have dw6 := dps_kt (fun a xs => sqt_frn f6) _ _ (noLs_pairs W) dw
    obtain ⟨ols, one⟩ := odm o0 (by rw [eod]; simp)
    have oW : o0 ∈ W.map (·.1) := by rw [PT.fst]; exact ols
    have at0 : atI (od.map V.int) 0 = some (.int o0) := by rw [eod]; exact atI_nat (j := 0) rfl
    obtain ⟨G6, e6⟩ : ∃ G6, G6 = upd (upd H4 e5 (.lst [])) e6 (.lst []) := ⟨_, rfl⟩
    rw [← e6] at t16 f6 kw6 ko6 dw6
    rw [← e6]
    clear e6
    refine ⟨_, rfl, wa, rfl, ⟨_, SqL.of kw6⟩, fun D2 hD2 => ?_⟩
    refine lc_list (K := K) (a := wa) (xs := hs) (fun i G9 => Same G6 G9 ∧ G9 D2 = some (.lst ((((W.take i).filter fun p => decide (p.1 = o0)).map (·.2)).map V.int))) ⟨same_upd hD2, upd_same⟩ (fun i G9 _ h => SqL.of (h.1 _ _ kw6)) ?_ ?_
    · rintro i2 x G9 hx ⟨sG, kD⟩
      obtain ⟨pr, er2, dp⟩ := dps_at' (dps_same sG _ _ dw6) hx
      obtain ⟨t, v1, v2, rfl, qt, d1, d2⟩ := two_dp dp
      cases d1
      cases d2
      have li := (List.getElem?_eq_some_iff.mp er2).1
      refine ⟨rfl, ?_⟩
      refine ⟨_, rfl, t, _, _, _, rfl, rfl, qt, atI_nat (j := 0) rfl, _, rfl, oa, _, _, _, rfl, rfl, SqL.of (sG _ _ ko6), at0, rfl, _, rfl, ?_⟩
      rw [dec_ii, filt_next _ er2]
      refine ite2 (fun c4 => ?_) (fun c4 => ?_)
      · rw [if_pos c4]
        refine ⟨_, rfl, t, _, _, _, rfl, rfl, qt, atI_nat (j := 1) rfl, _, kD, ?_, fun a o e => ?_, ?_⟩
        · rw [List.length_map, List.length_map]
          have h1 := List.length_filter_le (fun p : Int × Int => decide (p.1 = o0)) (W.take i2)
          rw [List.length_take] at h1
          exact Nat.lt_of_lt_of_le (show _ < 200 by omega) (by decide)
        · rw [upd_ne (ne_of_none e hD2)]
          exact sG _ _ e
        · rw [List.map_append, List.map_append]
          exact upd_same
      · rw [if_neg c4, List.append_nil]
        exact ⟨sG, kD⟩
    rintro G7 ⟨s7, kD2⟩
    rw [List.take_of_length_le (by omega), one_filt ndW oW] at kD2
    refine ⟨D2, _, _, .int (oweF W o0), rfl, rfl, SqL.of kD2, atI_nat (j := 0) rfl, ?_⟩
    have ko7 := s7 _ _ ko6
    refine ⟨_, rfl, oa, _, _, _, rfl, rfl, SqL.of ko7, at0, _, rfl, _, rfl, Nat.zero_le _, fun x1 hx1 => ?_⟩
    have v1 := same_upd (o := .tup []) hx1
    refine ⟨by show 4 ≤ sizeLine; decide, fun x2 hx2 => ?_⟩
    have v2 := same_upd (o := .tup [.str "key", .int g, .ref sv, .ref x1]) hx2
    refine ⟨by show 2 ≤ sizeLine; decide, fun x3 hx3 => ?_⟩
    have v3 := same_upd (o := .tup [.int o0, .ref x2]) hx3
    refine ⟨by show 1 ≤ sizeLine; decide, fun x4 hx4 => ?_⟩
    have v4 := same_upd (o := .lst [.ref x3]) hx4
    have v24 := (v2.trans v3).trans v4
    have v14 := v1.trans v24
    have d8 := dp_same ((t16.trans s7).trans v14) _ _ dsvG
    have due1 : Dp K (upd (upd (upd (upd G7 x1 (.tup [])) x2 (.tup [.str "key", .int g, .ref sv, .ref x1])) x3 (.tup [.int o0, .ref x2])) x4 (.lst [.ref x3])) (.ref x3) (toD (keyD g W []) o0) := .tup (SqT.of (v4 _ _ upd_same)) (.cons (.int o0) (.cons (.tup (SqT.of ((v3.trans v4) _ _ upd_same)) (.cons (.str _) (.cons (.int _) (.cons d8 (.cons (.tup (SqT.of (v24 _ _ upd_same)) .nil) .nil))))) .nil))
    have kx4 : (upd (upd (upd (upd G7 x1 (.tup [])) x2 (.tup [.str "key", .int g, .ref sv, .ref x1])) x3 (.tup [.int o0, .ref x2])) x4 (.lst [.ref x3])) x4 = some (.lst [.ref x3]) := upd_same
    have t18 := (t16.trans s7).trans v14
    have x4n : x4 ≠ c9.nu := (ne_of_none (OK9.same ((t16.trans s7).trans ((v1.trans v2).trans v3))).at_.hn hx4).symm
    obtain ⟨G8, e8⟩ : ∃ G8, G8 = (upd (upd (upd (upd G7 x1 (.tup [])) x2 (.tup [.str "key", .int g, .ref sv, .ref x1])) x3 (.tup [.int o0, .ref x2])) x4 (.lst [.ref x3])) := ⟨_, rfl⟩
    rw [← e8] at due1 kx4 t18
    rw [← e8]
    have ko8 : G8 oa = some (.lst (od.map V.int)) := by rw [e8]; exact v14 _ _ ko7
    clear e8 d8
    rcases three with ⟨a, _, st9, k, dk, dd, l, OK, KA⟩ | ⟨a, _⟩ | ⟨t, rest, a, _⟩
    rotate_left
    · rw [show lineR ls me mo = [] by rw [m0]; unfold lineR; simp] at a
      cases a
    · rw [show lineR ls me mo = [] by rw [m0]; unfold lineR; simp] at a
      cases a
    have A8 := (OK.same t18).at_
    refine ⟨_, rfl, c9.o, c9.dx, _, rfl, A8.hp, (A8.no "hear").2, _, rfl, oa, _, _, _, rfl, rfl, SqL.of ko8, at0, _, rfl, _, _, rfl, rfl, by show 2 ≤ sizeLine; decide, fun lp hlp => ?_⟩
    have v9 := same_upd (o := .tup [.str "ask", .int (oweF W o0 + 1)]) hlp
    have t19 := t18.trans v9
    have A9 := (OK.same t19).at_
    have K9 := KA.same t19
    have b0 := PT.bnd o0 ols
    have lnu : l ≠ c9.nu := fun e => by
      have h1 := K9.hl
      rw [e, A9.hn] at h1
      have h2 := Option.some.inj h1
      injection h2 with h3
      have h4 := congrArg List.length h3
      rw [List.length_map, msF_len, List.map_nil, List.length_nil] at h4
      have := PT.m0
      have := PT.m1
      omega
    refine ⟨c9.o, c9.dx, lp, o0, _, rfl, A9.hp, (A9.no "_hear_ask").2, (A9.no "_hear_pledge").2, .inl ⟨oweF W o0 + 1, SqT.of upd_same, c9.o, c9.dx, c9.ro, c9.nu, c9.pl, me, c9.rnd, o0, oweF W o0 + 1, c9.st, .ref k, c9.bg, c9.rs, msF n c9.f, c9.kvs, rfl, A9, b0.1, by rw [msF_len]; omega, rn9, .inr ⟨k, dk, dd, l, g, W, [], rfl, by rw [st9]; decide +kernel, K9, lnu, by rw [er]; exact ndl, fun m hm => by rw [er] at hm; have := PT.bnd m hm; rw [msF_len]; omega, by rw [er]; exact lls, Nat.zero_le _, ?_⟩⟩⟩
    have fo : ∀ m ∈ ls, c.f m = oweF W m := fun m hm => by
      rw [PT.f m hm]
      unfold wantsI
      rw [if_neg (by rw [m0]; simp)]
      omega
    have ln1 : lineUp me ls (msF n (updI c.f o0 (oweF W o0 + 1))) W [] = [o0] := by
      rw [line_W (mo := [o0]) PT.fst PT.bnd (fun m hm => by
        unfold updI wantsI
        by_cases e : m = o0
        · rw [if_pos e, if_pos (by simp [e]), e]
        · rw [if_neg e, if_neg (by simp [e]), fo m hm]; omega), lineR_me PT.up PT.mem PT.least, if_neg (by simp; exact fun z => one z.symm), List.append_nil]
      refine one_of' (ndl.filter _) fun m => ?_
      rw [List.mem_filter]
      constructor
      · rintro ⟨_, h⟩
        have h : me < m ∧ m = o0 := by simpa using h
        exact h.2
      · intro e
        subst e
        have := PT.least m ols
        exact ⟨ols, by simp; omega⟩
    rw [er, ef, learn_F b0.1 b0.2, fo o0 ols, if_pos (by omega), ln1]
    refine ⟨fun e => (by cases e), fun rest e => (by injection e with e1 _; exact absurd e1 one), fun t rest e ne z zs2 S2 HB ch AB p u kz dz => ?_⟩
    have e1 : t = o0 := by injection e with h _; exact h.symm
    have e2 : rest = [] := by injection e with _ h; exact h.symm
    have e3 := perm_up p u (by rw [PT.fst]; exact PT.up)
    subst e1
    subst e2
    subst e3
    have kx9 := v9 _ _ kx4
    have kxB := ch x4 _ (by
      simp only [List.mem_cons, List.not_mem_nil, or_false, not_or]
      exact ⟨ne_of kx9 A9.hp (by intro z; cases z), ne_of kx9 K9.hp (by intro z; cases z), x4n⟩) kx9
    have dueB := dp_kt (sqt_chgs ch fun a ha => by
      simp only [List.mem_cons, List.not_mem_nil, or_false] at ha
      rcases ha with h | h | h
      · rw [h]; exact .inr (.inr ⟨_, _, _, A9.hp⟩)
      · rw [h]; exact .inr (.inr ⟨_, _, _, K9.hp⟩)
      · rw [h]; exact .inl ⟨_, A9.hn⟩) _ _ (noL_to (noL_key _ _ _) _) (dp_same v9 _ _ due1)
    have shp : SeqAt.shaped (.list [toD (keyD g S2 []) t]) = true := shaped_tos (lay_key g S2 []) (deep_key _ _ _) [t]
    refine ⟨_, rfl, .list [toD (keyD g S2 []) t], .list [toD (keyD g S2 []) t], .lst (SqL.of kz) dz, .lst (SqL.of kxB) (.cons dueB .nil), shp, shp, ?_⟩
    rw [eqv_shaped shp]
    refine ⟨_, rfl, iteT ?_⟩
    exact ⟨_, rfl, c9.o, c9.dx, _, rfl, AB.hp, (AB.no "bears").2, _, _, _, _, _, _, _, _, _, _, _, _, _, rfl, AB, .inl ⟨rfl, rfl, fin _⟩⟩
  · refine iteF' (decide_eq_false m0) (iteF ?_)
    exact fin _
end

end G0
namespace G0
open PySem PySem.Spec PyProof.Rows L2 NdefX ClX
set_option maxHeartbeats 8000000
theorem goJ {A : Prop} {D : L2.Ends} (R : L2.St → Hp → Prop) (h1 : (∀ σ H, R σ H → D.nx σ H) → A) (h : ∀ σ H, R σ H → D.nx σ H) : A := h1 h
theorem emod_ne {b x n : Int} (b0 : 0 ≤ b) (b1 : b < n) (x0 : 0 ≤ x) (x1 : x < n - 1) : (b + 1 + x) % n ≠ b := by
  by_cases h : b + 1 + x < n
  · rw [Int.emod_eq_of_lt (by omega) h]
    omega
  · have e : b + 1 + x = (b + 1 + x - n) + n := by omega
    rw [e, Int.add_emod_right, Int.emod_eq_of_lt (by omega) (by omega)]
    omega
theorem sql_frn {K : PySem.W.Frag} {N : List Addr} {H0 H H' : Hp} {a : Addr} {xs : List V} (h : SqL K H0 a xs) (s : Same H0 H) (f : FrN N H H') (nf : ∀ x ∈ N, H0 x = none) : SqL K H' a xs := by
  rcases h with (z | ⟨o', z⟩) | z
  · exact .inl (.inl (f _ _ (s _ _ z) (fun _ _ _ e => nomatch e) (fun _ e => nomatch e) fun _ m => by rw [nf a m] at z; cases z))
  · exact .inl (.inr ⟨o', f _ _ (s _ _ z) (fun _ _ _ e => nomatch e) (fun _ e => nomatch e) fun _ m => by rw [nf a m] at z; cases z⟩)
  · exact .inr z
theorem nd_len {l : List Int} {n : Int} (nd : l.Nodup) (b : ∀ m ∈ l, 0 ≤ m ∧ m < n) : l.length ≤ n.toNat := by
  have p : l.Perm ((rangeI n).filter fun m => decide (m ∈ l)) := (List.perm_ext_iff_of_nodup nd ((rangeI_nd n).filter _)).mpr fun m => by
    rw [List.mem_filter, rangeI_mem, decide_eq_true_eq]
    exact ⟨fun hm => ⟨b m hm, hm⟩, fun hm => hm.2⟩
  have l1 := List.length_filter_le (fun m => decide (m ∈ l)) (rangeI n)
  rw [← p.length_eq, rangeI_len] at l1
  exact l1
theorem wentF_me {me : Int} {mo : List Int} : ∀ {W : List (Int × Int)} {f : Int → Int}, wentF me mo W f me = f me
  | [], _ => rfl
  | p :: W, f => by
    show wentF me mo W (if p.1 = me then f else updI f p.1 (p.2 + wantsI mo p.1)) me = f me
    rw [wentF_me]
    by_cases e : p.1 = me
    · rw [if_pos e]
    · rw [if_neg e]
      unfold updI
      rw [if_neg (fun z => e z.symm)]
section
variable {P : Program} {w : World} {K : PySem.W.Frag} {mg : Str → Option Value} {base : Heap} {C CK : Addr}
def spLaw (K : PySem.W.Frag) : Sp := fun vs H Q _ => ∃ (a : Addr) (ns : List Int), vs = [.ref a] ∧ SqL K H a (ns.map V.int) ∧ (∀ z ∈ ns, Builtin.Int.intBits z ≤ 1048576) ∧ ∀ H', Q (.bl true) H'
/-- how often it was in -/
def oftI (bits me m : Int) : Int := bits / 2 ^ (2 * (m % 29)).toNat % 4 * (if !decide (m = me) then 1 else 0)
theorem sc_law : FnScope ["script", "seats", "begins", "keep", "dead", "living", "seat", "bits", "more", "one", "went", "to", "order", "late", "number", "others"] ["script"] (defScope s_law) :=
  ⟨rfl, rfl, rfl, by decide +kernel, rfl, by decide +kernel, by decide +kernel⟩
theorem ok_law (F : Fn K mg "law" s_law) (T : BlS97 mg) (S : CalT K C) (MC : MkC P w K mg base C CK) (C_cell_at : Cal P w K mg base "_law_cell_at" 1 ["script", "k"] (spCell K)) (C_bits : Cal P w K mg base "_law_bits" 1 ["cell"] spBits)
    (C_gone_by : Cal P w K mg base "_law_gone_by" 1 ["seats", "keep", "begins", "bits"] (spGoneBy K)) (C_turned : Cal P w K mg base "_law_turned" 1 ["row", "cell"] (spTurned K)) (C_heard : Cal P w K mg base "_law_heard" 7 ["one", "went", "more"] (spHeard97 K C))
    (C_marks_heard : Cal P w K mg base "_law_marks_heard" 8 ["one", "order", "late"] (spMarks K C CK)) (C_alone : Cal P w K mg base "_law_alone" 9 ["one", "order", "more"] (spAlone K C)) (C_pledges_heard : Cal P w K mg base "_law_pledges_heard" 8 ["one", "number", "order", "went", "more", "late"] (spPledges K C))
    (MA : Me P w K mg base C "ask" 2 ["self"] (spAskC K C)) : Cal P w K mg base "law" 10 ["script"] (spLaw K) := by
  obtain ⟨fA, fdA, GA, bA, mA⟩ := MA
  obtain ⟨fC, fdC, dsC, GC, rC, bC, kC, MI⟩ := MC.made
  have gC := MC.mg
  refine cal_of F sc_law
    (fun _ _ _ _ _ _ us hl => match us, hl with | [_], _ => rfl) ?_ ?_
  · rintro vs H Q E ⟨a, ns, rfl, _⟩
    rfl
  rintro f cdv A outer s H vs Q E free hr ⟨sa, ns, rfl, hS, bits, q⟩
  have hr4 : Room 4 _ := hr.mono (by decide)
  have hr2 : Room 2 _ := hr.mono (by decide)
-- [(0, 'script'), (1, 'seats'), (2, 'begins'), (3, 'keep'), (4, 'dead'), (5, 'living'), (6, 'seat'), (7, 'bits'), (8, 'more'), (9, 'one'), (10, 'went'), (11, 'to'), (12, 'order'), (13, 'late'), (14, 'number'), (15, 'others')]
  refine ⟨_, (pss_cons (ps_set (i := 1) sc_law.nd rfl (Or.inl rfl) (pe_op op_add pe_int (pe_op op_mod (pe_cal C_cell_at free (hr.mono (by decide)) (pa_cons (pv 0) (pa_cons pe_int pa_nil))) pe_int)))
    (pss_cons (ps_set (i := 2) sc_law.nd rfl (Or.inl rfl) (pe_op op_mod (pe_cal C_cell_at free (hr.mono (by decide)) (pa_cons (pv 0) (pa_cons pe_int pa_nil))) (pv 1)))
    (pss_cons (ps_set (i := 3) sc_law.nd rfl (Or.inl rfl) (pe_op op_mod (pe_op op_add (pe_op op_add (pv 2) pe_int) (pe_op op_mod (pe_op op_fdivW (pe_cal C_cell_at free (hr.mono (by decide)) (pa_cons (pv 0) (pa_cons pe_int pa_nil))) pe_int) (pe_op op_sub (pv 1) pe_int))) (pv 1)))
    (pss_cons (ps_set (i := 4) sc_law.nd rfl (Or.inr rfl) (pe_cal C_gone_by free (hr.mono (by decide)) (pa_cons (pv 1) (pa_cons (pv 3) (pa_cons (pv 2) (pa_cons (pe_cal C_bits free (hr.mono (by decide)) (pa_cons (pe_cal C_cell_at free (hr.mono (by decide)) (pa_cons (pv 0) (pa_cons pe_int pa_nil))) pa_nil)) pa_nil))))))
    (pss_cons (ps_setLc (i := 5) (own := [("seat", 6)]) (g := gName 6)  (by rfl) sc_law.nd rfl rfl (sw_true rfl rfl rfl (by decide +kernel)) (pi_range1 (by rfl) T.range (pa_cons (pv 1) pa_nil)) (blkOk_by (N := ["script", "seats", "begins", "keep", "dead", "living", "seat", "bits", "more", "one", "went", "to", "order", "late", "number", "others"]) (sc := defScope s_law) (by decide +kernel)) (fun _ _ _ _ _ => pg_name (i := 6) sc_law.nd rfl (Or.inl rfl)) (fun _ _ _ _ _ => pts_one (pt_cmpR (u_notinK K) (pv 6) (pv 4) (by rfl))) (fun _ _ _ _ _ => (pv 6)))
    (pss_cons (ps_set (i := 7) sc_law.nd rfl (Or.inr rfl) (pe_cal C_bits free (hr.mono (by decide)) (pa_cons (pe_cal C_cell_at free (hr.mono (by decide)) (pa_cons (pv 0) (pa_cons pe_int pa_nil))) pa_nil)))
    (pss_cons (ps_setLc (i := 8) (own := [("seat", 6)]) (g := gName 6)  (by rfl) sc_law.nd rfl rfl (sw_true rfl rfl rfl (by decide +kernel)) (pi_list (pv 5)) (blkOk_by (N := ["script", "seats", "begins", "keep", "dead", "living", "seat", "bits", "more", "one", "went", "to", "order", "late", "number", "others"]) (sc := defScope s_law) (by decide +kernel)) (fun _ _ _ _ _ => pg_name (i := 6) sc_law.nd rfl (Or.inl rfl)) (fun _ _ _ _ _ => pts_one (pt_cmpR op_eq (pe_op op_and (pe_op op_shr (pv 7) (pv 6)) pe_int) pe_int (nomark _))) (fun _ _ _ _ _ => (pv 6)))
    (pss_cons (ps_set (i := 9) sc_law.nd rfl (Or.inr rfl) (pe_makeK MI GC hr4 (by rfl) gC kC pass0 (pa_cons (pe_ix ix_list (pv 5) pe_int (fun _ _ => rfl)) (pa_cons (pv 1) pa_nil)) (pk_cons (pv 2) pk_nil)))
    (pss_cons (ps_set (i := 7) sc_law.nd rfl (Or.inr rfl) (pe_cal C_bits free (hr.mono (by decide)) (pa_cons (pe_cal C_cell_at free (hr.mono (by decide)) (pa_cons (pv 0) (pa_cons pe_int pa_nil))) pa_nil)))
    (pss_cons (ps_setLc (i := 10) (own := [("seat", 6)]) (g := gName 6) (tt := tYes) (by rfl) sc_law.nd rfl rfl (sw_true rfl rfl rfl (by decide +kernel)) (pi_list (pv 5)) (blkOk_by (N := ["script", "seats", "begins", "keep", "dead", "living", "seat", "bits", "more", "one", "went", "to", "order", "late", "number", "others"]) (sc := defScope s_law) (by decide +kernel)) (fun _ _ _ _ _ => pg_name (i := 6) sc_law.nd rfl (Or.inl rfl)) (fun _ _ _ _ _ => pts_nil) (fun _ _ _ _ _ => (pe_tup (pa_cons (pv 6) (pa_cons (pe_op op_mul (pe_op op_mod (pe_op op_shr (pv 7) (pe_op op_mul pe_int (pe_op op_mod (pv 6) pe_int))) pe_int) (pe_callTy call_int1 (by rfl) T.int (by decide +kernel) (pa_cons (pe_cmpR op_ne (pv 6) (pe_fldK K (pv 9)) (nomark _)) pa_nil))) pa_nil)))))
    (pss_cons (ps_if (PW.pt (pw_and (pt_cmpR u_in (pe_fld (pv 9) (by rfl)) (pv 8) (by rfl)) (pw_and1 (pt_cmpR (op_neD (u64 hr)) (pe_meth0 (pv 9) S.cl mA GA hr2 bA .nil pass0) (pe_lc (own := [("to", 11)]) (g := gName 11)  (by rfl) sc_law.nd (pi_range1 (by rfl) T.range (pa_cons (pv 1) pa_nil)) (blkOk_by (N := ["script", "seats", "begins", "keep", "dead", "living", "seat", "bits", "more", "one", "went", "to", "order", "late", "number", "others"]) (sc := defScope s_law) (by decide +kernel)) (fun _ _ _ _ _ => pg_name (i := 11) sc_law.nd rfl (Or.inl rfl)) (fun _ _ _ _ _ => pts_one (pt_cmpR op_ne (pv 11) (pe_fldK K (pv 9)) (nomark _))) (fun _ _ _ _ _ => (pe_tup (pa_cons (pv 11) (pa_cons (pe_tup (pa_cons pe_str (pa_cons pe_int pa_nil))) pa_nil))))) (nomark _)))))
    (pss_one (ps_ret pe_bl))
    pss_nil)
    (pss_cons (ps_if (pt_not (pt_val (pe_cal C_heard free (hr.mono (by decide)) (pa_cons (pv 9) (pa_cons (pv 10) (pa_cons (pv 8) pa_nil))))))
    (pss_one (ps_ret pe_bl))
    pss_nil)
    (pss_cons (ps_set (i := 12) sc_law.nd rfl (Or.inl rfl) (pe_cal C_turned free (hr.mono (by decide)) (pa_cons (pe_callB cr_sortedI (by rfl) T.sorted (by decide +kernel) (pa_cons (pv 4) pa_nil)) (pa_cons (pe_op op_mod (pe_cal C_cell_at free (hr.mono (by decide)) (pa_cons (pv 0) (pa_cons pe_int pa_nil))) (pe_op op_pow pe_int pe_int)) pa_nil))))
    (pss_cons (ps_set (i := 13) sc_law.nd rfl (Or.inl rfl) (pe_lst pa_nil))
    (pss_cons (ps_if (PW.pt (pw_and (pt_cmpR op_gt (pe_callB call_len_seq (by rfl) T.len (by decide +kernel) (pa_cons (pv 5) pa_nil)) pe_int (nomark _)) (pw_and1 (pt_cmpR op_eq (pe_op op_mod (pe_op op_fdivW (pe_cal C_cell_at free (hr.mono (by decide)) (pa_cons (pv 0) (pa_cons pe_int pa_nil))) pe_int) pe_int) pe_int (nomark _)))))
    (pss_one (ps_set (i := 13) sc_law.nd rfl (Or.inl rfl) (pe_lst (pa_cons (pe_ix ix_list (pv 5) pe_int (fun _ _ => rfl)) (pa_cons (pe_op op_add (pe_ix ix_tup (pe_ix ix_list (pv 10) pe_int (fun _ _ => rfl)) pe_int (fun _ _ => rfl)) (pe_callTy call_int1 (by rfl) T.int (by decide +kernel) (pa_cons (pe_cmpR u_in (pe_ix ix_list (pv 5) pe_int (fun _ _ => rfl)) (pv 8) (by rfl)) pa_nil))) (pa_cons (pe_callTy call_int1 (by rfl) T.int (by decide +kernel) (pa_cons (pe_cmpR u_in (pe_ix ix_list (pv 5) pe_int (fun _ _ => rfl)) (pv 8) (by rfl)) pa_nil)) pa_nil))))))
    pss_nil)
    (pss_cons (ps_if (pt_cmpR op_eq (pe_callB call_len_seq (by rfl) T.len (by decide +kernel) (pa_cons (pv 5) pa_nil)) pe_int (nomark _))
    (pss_one (ps_ret (pe_cal C_alone free (hr.mono (by decide)) (pa_cons (pv 9) (pa_cons (pv 12) (pa_cons (pv 8) pa_nil))))))
    pss_nil)
    (pss_cons (ps_set (i := 14) sc_law.nd rfl (Or.inl rfl) (pe_cal C_marks_heard free (hr.mono (by decide)) (pa_cons (pv 9) (pa_cons (pv 12) (pa_cons (pv 13) pa_nil)))))
    (pss_cons (ps_if (pt_cmpR op_isN (pv 14) pe_non (nomark _))
    (pss_one (ps_ret pe_bl))
    pss_nil)
    (pss_cons (ps_setLc (i := 15) (own := [("seat", 6)]) (g := gName 6)  (by rfl) sc_law.nd rfl rfl (sw_true rfl rfl rfl (by decide +kernel)) (pi_list (pv 5)) (blkOk_by (N := ["script", "seats", "begins", "keep", "dead", "living", "seat", "bits", "more", "one", "went", "to", "order", "late", "number", "others"]) (sc := defScope s_law) (by decide +kernel)) (fun _ _ _ _ _ => pg_name (i := 6) sc_law.nd rfl (Or.inl rfl)) (fun _ _ _ _ _ => pts_one (pt_cmpR op_ne (pv 6) (pe_fldK K (pv 9)) (nomark _))) (fun _ _ _ _ _ => (pv 6)))
    (pss_one (ps_ret (pe_cal C_pledges_heard free (hr.mono (by decide)) (pa_cons (pv 9) (pa_cons (pv 14) (pa_cons (pe_cal C_turned free (hr.mono (by decide)) (pa_cons (pv 15) (pa_cons (pe_op op_mod (pe_cal C_cell_at free (hr.mono (by decide)) (pa_cons (pv 0) (pa_cons pe_int pa_nil))) (pe_op op_pow pe_int pe_int)) pa_nil))) (pa_cons (pv 10) (pa_cons (pv 8) (pa_cons (pv 13) pa_nil)))))))))))))))))))))))))))), ?_⟩
  refine ⟨_, rfl, sa, ns, 0, rfl, hS, by decide, bits, fun c0 _ => ⟨_, _, rfl, rfl, (by show (0 : Int) < 59; decide), _, _, rfl, rfl, ?_⟩⟩
  show gName 1 (V.int (2 + c0 % 59)) _ H _
  obtain ⟨n, hn⟩ : ∃ n : Int, n = 2 + c0 % 59 := ⟨_, rfl⟩
  have n2 : 2 ≤ n := by have := Int.emod_nonneg c0 (show (59 : Int) ≠ 0 by decide); omega
  have n60 : n ≤ 60 := by have := Int.emod_lt_of_pos c0 (show (0 : Int) < 59 by decide); omega
  rw [← hn]
  clear hn
  refine ⟨_, rfl, sa, ns, 1, rfl, hS, by decide, bits, fun c1 _ => ⟨_, rfl, _, _, rfl, rfl, (by show (0 : Int) < n; omega), ?_⟩⟩
  show gName 2 (V.int (c1 % n)) _ H _
  obtain ⟨b, hb⟩ : ∃ b : Int, b = c1 % n := ⟨_, rfl⟩
  have b0 : 0 ≤ b := by rw [hb]; exact Int.emod_nonneg _ (by omega)
  have b1 : b < n := by rw [hb]; exact Int.emod_lt_of_pos _ (by omega)
  rw [← hb]
  clear hb
  refine ⟨_, rfl, _, _, rfl, rfl, _, rfl, sa, ns, 1, rfl, hS, by decide, bits, fun c2 _ => ⟨_, _, rfl, rfl, ⟨by decide, by decide⟩, _, rfl, _, _, rfl, rfl, _, _, rfl, rfl, (by show (0 : Int) < n - 1; omega), _, _, rfl, rfl, _, rfl, _, _, rfl, rfl, (by show (0 : Int) < n; omega), ?_⟩⟩
  show gName 3 (V.int ((b + 1 + c2 / 60 % (n - 1)) % n)) _ H _
  obtain ⟨x, hx⟩ : ∃ x : Int, x = c2 / 60 % (n - 1) := ⟨_, rfl⟩
  have x0 : 0 ≤ x := by rw [hx]; exact Int.emod_nonneg _ (by omega)
  have x1 : x < n - 1 := by rw [hx]; exact Int.emod_lt_of_pos _ (by omega)
  rw [← hx]
  obtain ⟨k, hk⟩ : ∃ k : Int, k = (b + 1 + x) % n := ⟨_, rfl⟩
  have k0 : 0 ≤ k := by rw [hk]; exact Int.emod_nonneg _ (by omega)
  have k1 : k < n := by rw [hk]; exact Int.emod_lt_of_pos _ (by omega)
  have kb : k ≠ b := by rw [hk]; exact emod_ne b0 b1 x0 x1
  rw [← hk]
  clear hx hk x0 x1
  refine ⟨_, rfl, _, rfl, _, rfl, _, rfl, sa, ns, 2, rfl, hS, by decide, bits, fun c3 _ => ⟨c3, rfl, fun b2 => ⟨n, k, b, b2, rfl, by omega, n60, fun da H1 s1 hda kda => ?_⟩⟩⟩
  obtain ⟨dl, edl⟩ : ∃ dl, dl = goneL n b k b2 := ⟨_, rfl⟩
  rw [← edl] at kda
  have ndD : dl.Nodup := by
    rw [edl]
    refine List.nodup_cons.mpr ⟨fun h => ?_, (rangeI_nd n).filter _⟩
    have := (List.mem_filter.mp h).2
    simp at this
  have bD : ∀ m ∈ dl, (0 ≤ m ∧ m < n) ∧ m ≠ k := fun m h => by
    rw [edl] at h
    rcases List.mem_cons.mp h with e | h
    · rw [e]; exact ⟨⟨b0, b1⟩, kb.symm⟩
    · have h1 := List.mem_filter.mp h
      refine ⟨rangeI_mem.mp h1.1, fun e => ?_⟩
      have := h1.2
      rw [e] at this
      simp at this
  have neD : dl ≠ [] := by rw [edl]; exact fun e => nomatch e
  have bdl : b ∈ dl := by rw [edl]; exact List.mem_cons_self ..
  clear edl
  refine ⟨_, rfl, _, rfl, by omega, by omega, fun la hla => ?_⟩
  refine lc_range (lo := 0) (n := n.toNat) (fun i G => Same H1 G ∧ G la = some (.lst ((((rangeI n).take i).filter fun m => !decide (m ∈ dl)).map V.int))) ⟨same_upd hla, upd_same⟩ ?_ ?_
  · rintro i G hi ⟨sG, kD⟩
    have er := rangeI_at (n := n) (j := i) (by omega)
    refine ⟨rfl, _, rfl, _, rfl, .inl ⟨da, _, rfl, .inl (SqL.of (sG _ _ kda)), rfl, flat_ints _, _, rfl, ?_⟩⟩
    rw [inV_ints, Int.zero_add, filt_next _ er]
    refine ite2 (fun c4 => ?_) (fun c4 => ?_)
    · have c4 : (!decide ((i : Int) ∈ dl)) = true := c4
      rw [if_pos c4]
      refine ⟨_, rfl, _, kD, ?_, fun a o e => ?_, ?_⟩
      · rw [List.length_map]
        refine Nat.lt_of_le_of_lt (List.length_filter_le _ _) ?_
        rw [List.length_take]
        exact Nat.lt_of_lt_of_le (show _ < 100 by omega) (by decide)
      · rw [upd_ne (ne_of_none e hla)]
        exact sG _ _ e
      · rw [List.map_append]
        exact upd_same
    · have c4 : ¬ (!decide ((i : Int) ∈ dl)) = true := c4
      rw [if_neg c4, List.append_nil]
      exact ⟨sG, kD⟩
  rintro H2 ⟨s2, kla⟩
  rw [List.take_of_length_le (by rw [rangeI_len]; first | exact Nat.le_refl _ | omega)] at kla
  obtain ⟨ls, els⟩ : ∃ ls, ls = (rangeI n).filter fun m => !decide (m ∈ dl) := ⟨_, rfl⟩
  rw [← els] at kla
  have mls : ∀ m, m ∈ ls ↔ (0 ≤ m ∧ m < n) ∧ m ∉ dl := fun m => by rw [els, List.mem_filter, rangeI_mem]; simp
  have upL : ls.Pairwise (· < ·) := by rw [els]; exact rangeI_up.filter _
  have lls : ls.length ≤ 60 := by
    have := List.length_filter_le (fun m => !decide (m ∈ dl)) (rangeI n)
    rw [rangeI_len] at this
    rw [els]
    omega
  obtain ⟨me, tl, emt⟩ : ∃ me tl, ls = me :: tl := by
    cases h : ls with
    | nil =>
      have : k ∈ ls := (mls k).mpr ⟨⟨k0, k1⟩, fun z => (bD k z).2 rfl⟩
      rw [h] at this
      exact absurd this List.not_mem_nil
    | cons x xs => exact ⟨x, xs, rfl⟩
  have meL : me ∈ ls := by rw [emt]; exact List.mem_cons_self ..
  obtain ⟨⟨m0, m1⟩, mnd⟩ := (mls me).mp meL
  have mb : me ≠ b := fun e => mnd (by rw [e]; exact bdl)
  have least : ∀ m ∈ ls, me ≤ m := fun m hm => by
    rw [emt] at hm upL
    rcases List.mem_cons.mp hm with e | h
    · omega
    · have := (List.pairwise_cons.mp upL).1 m h
      omega
  have at0 : atI (ls.map V.int) 0 = some (.int me) := by rw [emt]; exact atI_nat (j := 0) rfl
  have s02 := s1.trans s2
  refine ⟨_, rfl, sa, ns, 3, rfl, s02.seq hS, by decide, bits, fun c4 _ => ⟨c4, rfl, fun b3 => ?_⟩⟩
  refine ⟨_, rfl, la, rfl, ⟨_, SqL.of kla⟩, fun ma hma => ?_⟩
  refine lc_filtI (K := K) (a := la) (ns := ls) (bitB b3) (by omega) hma (SqL.of kla) (fun i x G Y B hx sG h => ?_) (fun H3 s3 kma => ?_)
  · have hx0 := ((mls x).mp (List.mem_of_getElem? hx)).1.1
    refine ⟨rfl, _, rfl, _, rfl, _, _, rfl, rfl, hx0, _, _, rfl, rfl, rfl, _, rfl, ?_⟩
    exact tst dec_ii (fun y => ⟨_, rfl, y⟩) h
  obtain ⟨mo, emo⟩ : ∃ mo, mo = ls.filter (bitB b3) := ⟨_, rfl⟩
  rw [← emo] at kma
  have mmo : ∀ m ∈ mo, m ∈ ls := fun m h => by rw [emo] at h; exact (List.mem_filter.mp h).1
  have lmo : mo.length ≤ 60 := by rw [emo]; exact Nat.le_trans (List.length_filter_le _ _) lls
  have kla3 := s3 _ _ kla
  have s03 := s02.trans s3
  refine ⟨_, rfl, la, _, _, _, rfl, rfl, SqL.of kla3, at0, _, rfl, _, rfl, rfl, rfl, fun y dy hy hdy ne => ?_⟩
  have s4 : Same H3 (upd (upd H3 dy (.own y)) y (.ins C dy [])) := (same_upd hdy).trans (same_upd (by rw [upd_ne ne.symm]; exact hy))
  refine ⟨y, dy, me, n, b, rfl, upd_same, by omega, n60, fun ro nu pl key H5 cg r0 u0 l0 A0 FK => ⟨rfl, ?_⟩⟩
  have s5 : Same H3 H5 := fun b o e => cg _ _ (ne_of_none e hy) (s4 _ _ e)
  rw [FreshKey, decide_eq_false mb, if_neg (by decide)] at FK
  subst FK
  rw [zeros_F] at A0
  have rn : ro ≠ nu := fun e => by
    have h1 := A0.hn
    rw [← e, A0.hr] at h1
    have h2 := Option.some.inj h1
    injection h2 with h3
    have h4 := congrArg (fun z : List V => z[1]?) h3
    unfold msF at h4
    simp only [List.getElem?_map] at h4
    rw [rangeI_at (n := n) (j := 1) (by omega)] at h4
    simp at h4
  obtain ⟨c0, ec0⟩ : ∃ c0 : One, c0 = ⟨y, dy, ro, nu, pl, "out", 0, .non, fun _ => 0, rangeI n, [], []⟩ := ⟨_, rfl⟩
  have O5 : OnAt K H5 C n me .non c0 := by rw [ec0]; exact ⟨A0, .nil, rn⟩
  have s05 := s03.trans s5
  have nN : ∀ {a : Addr} {o : HO}, H3 a = some o → a ≠ nu := fun e => ne_of_none e (s4.free u0)
  have kda5 := s5 _ _ (s3 _ _ (s2 _ _ kda))
  have kla5 := s5 _ _ kla3
  have kma5 := s5 _ _ kma
  have daN := nN (s3 _ _ (s2 _ _ kda))
  have laN := nN kla3
  have maN := nN kma
  have ey : y = c0.o := by rw [ec0]
  have enu : nu = c0.nu := by rw [ec0]
  rw [enu] at daN laN maN
  clear A0
  refine ⟨_, rfl, sa, ns, 6, rfl, s05.seq hS, by decide, bits, fun c5 _ => ⟨c5, rfl, fun b6 => ?_⟩⟩
  obtain ⟨W, eW⟩ : ∃ W : List (Int × Int), W = ls.map fun m => (m, oftI b6 me m) := ⟨_, rfl⟩
  refine ⟨_, rfl, la, rfl, ⟨_, SqL.of kla5⟩, fun wa hwa => ?_⟩
  refine lc_dataI (K := K) (a := la) (ns := ls) (fun _ => true) (fun m => pairD (m, oftI b6 me m)) (by omega) (fun x _ => by simp [pairD, noL, noLs]) hwa (SqL.of kla5) (fun i x G Y B hx sG h1 h2 => ?_) (fun H6 hs s6 kwa dwa => ?_)
  · have hx0 := ((mls x).mp (List.mem_of_getElem? hx)).1
    have A1 : CalAt G C y dy me "out" 0 ro nu .non .non pl (rangeI n) (msF n fun _ => 0) [] := by
      have := (O5.same sG).at_
      rw [ec0] at this
      exact this
    refine ⟨rfl, lc_yes ?_⟩
    have mn : 0 ≤ x % 29 := Int.emod_nonneg _ (by decide)
    have mm : 0 ≤ b6 / 2 ^ (2 * (x % 29)).toNat % 4 := Int.emod_nonneg _ (by decide)
    have m4 : b6 / 2 ^ (2 * (x % 29)).toNat % 4 < 4 := Int.emod_lt_of_pos _ (by decide)
    refine ⟨_, rfl, _, rfl, _, rfl, _, _, rfl, rfl, (by show (0 : Int) < 29; decide), _, _, rfl, rfl, .inl ⟨by decide, by decide⟩, _, _, rfl, rfl, (by show (0 : Int) ≤ 2 * (x % 29); omega), _, _, rfl, rfl, (by show (0 : Int) < 4; decide), _, rfl, _, rfl, y, C, dy, _, _, rfl, A1.hp, S.cl, S.me, caF_me _ _ _ _ _ _ _ _ _, rfl, ?_⟩
    rw [dec_ii]
    exact .inr ⟨!decide (x = me), rfl, _, _, rfl, rfl, .inl ⟨by show -(2 ^ 64) < b6 / 2 ^ (2 * (x % 29)).toNat % 4; omega, by show b6 / 2 ^ (2 * (x % 29)).toNat % 4 < 2 ^ 64; omega⟩, by show 2 ≤ sizeLine; decide, fun t ht => h1 rfl (.ref t) _ (same_upd ht) (.tup (SqT.of upd_same) (.cons (.int x) (.cons (.int _) .nil)))⟩
  have ef1 : ls.filter (fun _ => true) = ls := List.filter_eq_self.mpr fun _ _ => rfl
  have ef2 : (ls.map fun m => pairD (m, oftI b6 me m)) = W.map pairD := by rw [eW, List.map_map]; rfl
  rw [ef1, ef2] at dwa
  have fW : W.map (·.1) = ls := by rw [eW, List.map_map]; exact List.map_id ls
  have O6 := O5.same s6
  have kda6 := s6 _ _ kda5
  have kla6 := s6 _ _ kla5
  have kma6 := s6 _ _ kma5
  have waN : wa ≠ c0.nu := (ne_of_none O5.at_.hn hwa).symm
  have s06 := s05.trans s6
  apply goJ (fun σ G => ∃ (z11 : Option V) (c1 : One), σ = [some (V.ref sa), some (V.int n), some (V.int b), some (V.int k), some (V.ref da), some (V.ref la), none, some (V.int b6), some (V.ref ma), some (V.ref y), some (V.ref wa), z11, none, none, none, none] ∧ c1.o = y ∧ c1.nu = c0.nu ∧ c1.rs = rangeI n ∧ c1.rnd = 0 ∧ c1.bg = .non ∧ c1.ps = [] ∧ OnAt K G C n me .non c1 ∧ FrN [c0.nu] H6 G ∧ ((me ∈ mo ∧ c1.st = "asking" ∧ c1.f = updI (fun _ => 0) me 1) ∨ (me ∉ mo ∧ c1.st = "out" ∧ c1.f = fun _ => 0)))
  · intro J
    have A6 : CalAt H6 C y dy me "out" 0 ro nu .non .non pl (rangeI n) (msF n fun _ => 0) [] := by
      have := O6.at_
      rw [ec0] at this
      exact this
    by_cases hm : me ∈ mo
    · refine ⟨_, rfl, y, C, dy, _, _, rfl, A6.hp, S.cl, S.me, caF_me _ _ _ _ _ _ _ _ _, _, rfl, .inl ⟨ma, _, rfl, .inl (SqL.of kma6), rfl, flat_ints _, _, rfl, ?_⟩⟩
      rw [inV_ints]
      refine iteT' (decide_eq_true hm) ?_
      refine ⟨_, rfl, y, dy, _, rfl, A6.hp, (A6.no "ask").2, y, dy, ro, nu, pl, me, 0, "out", .non, .non, rangeI n, msF n fun _ => 0, [], rfl, A6, m0, by rw [msF_len]; omega, by rw [msF_len]; omega, rn, by rw [rangeI_len]; omega, .inr ⟨rfl, fun z zs7 H7 ch A7 kz dz => ?_⟩⟩
      rw [inc_F m0 m1] at A7
      obtain ⟨c7, ec7⟩ : ∃ c7 : One, c7 = ⟨y, dy, ro, nu, pl, "asking", 0, .non, updI (fun _ => 0) me 1, rangeI n, [], []⟩ := ⟨_, rfl⟩
      have O7 : OnAt K H7 C n me .non c7 := by rw [ec7]; exact ⟨A7, .nil, rn⟩
      have f7 : FrN [c0.nu] H6 H7 := O6.frn ch fun a ha => by
        rw [← ey, ← enu]
        simp only [List.mem_cons, List.not_mem_nil, or_false] at ha
        rcases ha with h | h
        · exact .inl h
        · exact .inr (.inl h)
      refine ⟨_, rfl, _, rfl, by omega, by omega, fun D hD => ?_⟩
      refine lc_range (lo := 0) (n := n.toNat) (fun i G => Same H7 G ∧ ∃ zs, zs.length ≤ i ∧ G D = some (.lst zs) ∧ DpAll K G zs ((othR ((rangeI n).take i) me).map (toD (askD 1)))) ⟨same_upd hD, [], Nat.le_refl _, upd_same, .nil⟩ ?_ ?_
      · rintro i G hi ⟨sG, zs, lz, kD, dz⟩
        have er := rangeI_at (n := n) (j := i) (by omega)
        have nls : noLs ((othR ((rangeI n).take i) me).map (toD (askD 1))) = true := noLs_of fun d hd => by
          obtain ⟨y, _, rfl⟩ := List.mem_map.mp hd
          exact noL_to (by simp [askD, noL, noLs]) y
        refine ⟨rfl, _, rfl, _, rfl, y, C, dy, _, _, rfl, sG _ _ A7.hp, S.cl, S.me, caF_me _ _ _ _ _ _ _ _ _, rfl, _, rfl, ?_⟩
        rw [dec_ii, Int.zero_add]
        have nx : othR ((rangeI n).take (i + 1)) me = othR ((rangeI n).take i) me ++ (if (!decide ((i : Int) = me)) = true then [(i : Int)] else []) := filt_next _ er
        refine ite2 (fun c4 => ?_) (fun c4 => ?_)
        · rw [nx, if_pos c4]
          refine ⟨_, rfl, by show 2 ≤ sizeLine; decide, fun t ht => ?_⟩
          have s3 := same_upd (o := .tup [.str "ask", .int 1]) ht
          refine ⟨by show 2 ≤ sizeLine; decide, fun t2 ht2 => ?_⟩
          have s4 := same_upd (o := .tup [.int (i : Int), .ref t]) ht2
          have kD4 := s4 _ _ (s3 _ _ kD)
          refine ⟨_, kD4, Nat.lt_of_lt_of_le (show zs.length < 100 by omega) (by decide), fun a o e => ?_, zs ++ [.ref t2], by rw [List.length_append, List.length_singleton]; omega, upd_same, ?_⟩
          · rw [upd_ne (ne_of_none e hD)]
            exact s4 _ _ (s3 _ _ (sG _ _ e))
          · rw [List.map_append]
            refine dps_app (dps_chg ⟨_, kD4⟩ Chg.self _ _ nls (dps_same (s3.trans s4) _ _ dz)) (dps_chg ⟨_, kD4⟩ Chg.self _ _ (by simp [toD, askD, noL, noLs]) (.cons (.tup (SqT.of upd_same) (.cons (.int _) (.cons (.tup (SqT.of (s4 _ _ upd_same)) (.cons (.str _) (.cons (.int _) .nil))) .nil))) .nil))
        · rw [nx, if_neg c4, List.append_nil]
          exact ⟨sG, zs, by omega, kD, dz⟩
      rintro H8 ⟨s8, zs8, lz8, kD8, dz8⟩
      rw [List.take_of_length_le (by rw [rangeI_len]; first | exact Nat.le_refl _ | omega)] at dz8
      have shp : SeqAt.shaped (.list ((othR (rangeI n) me).map (toD (askD 1)))) = true := shaped_tos (lay_ask 1) (deep_ask 1) _
      rw [msF_get m0 m1, Int.zero_add] at dz
      refine ⟨_, _, .lst (SqL.of (s8 _ _ kz)) (dps_same s8 _ _ dz), .lst (SqL.of kD8) dz8, shp, shp, _, rfl, ?_⟩
      rw [eqv_shaped shp]
      refine iteF' rfl ?_
      exact J _ _ ⟨_, c7, rfl, by rw [ec7], by rw [ec7, ec0], by rw [ec7], by rw [ec7], by rw [ec7], by rw [ec7], O7.same s8, f7.trans (Same.frn s8), .inl ⟨hm, by rw [ec7], by rw [ec7]⟩⟩
    · refine ⟨_, rfl, y, C, dy, _, _, rfl, A6.hp, S.cl, S.me, caF_me _ _ _ _ _ _ _ _ _, _, rfl, .inl ⟨ma, _, rfl, .inl (SqL.of kma6), rfl, flat_ints _, _, rfl, ?_⟩⟩
      rw [inV_ints]
      refine iteF' (decide_eq_false hm) (iteF ?_)
      refine J _ _ ⟨none, c0, rfl, ey.symm, rfl, by rw [ec0], by rw [ec0], by rw [ec0], by rw [ec0], O6, Same.frn (Same.refl _), .inr ⟨hm, by rw [ec0], by rw [ec0]⟩⟩
  rintro σ G ⟨z11, c1, rfl, o1, nu1, rs1, rnd1, bg1, ps1, O, fG, ast⟩
  have kda7 := lst_frn fG kda6 (by simpa using daN)
  have kla7 := lst_frn fG kla6 (by simpa using laN)
  have kma7 := lst_frn fG kma6 (by simpa using maN)
  have kwa7 := lst_frn fG kwa (by simpa using waN)
  have dwa7 := dps_kt (fun a xs => sqt_frn fG) _ _ (noLs_pairs W) dwa
  have nuH : H c0.nu = none := by rw [← enu]; exact s03.free (s4.free u0)
  have hS7 : SqL K G sa (ns.map V.int) := sql_frn hS s06 fG (fun x hx => by rw [List.mem_singleton.mp hx]; exact nuH)
  have lhs : hs.length = W.length := by rw [dps_len dwa, List.length_map]
  have ndW : (W.map (·.1)).Nodup := by rw [fW]; exact upL.imp fun h => by omega
  have oft : ∀ m, 0 ≤ oftI b6 me m ∧ oftI b6 me m ≤ 3 := fun m => by
    have h1 := Int.emod_nonneg (b6 / 2 ^ (2 * (m % 29)).toNat) (show (4 : Int) ≠ 0 by decide)
    have h2 := Int.emod_lt_of_pos (b6 / 2 ^ (2 * (m % 29)).toNat) (show (0 : Int) < 4 by decide)
    unfold oftI
    split <;> omega
  have mW : ∀ p ∈ W, p.1 ∈ ls ∧ p.2 = oftI b6 me p.1 := fun p hp => by
    rw [eW] at hp
    obtain ⟨m, hm, rfl⟩ := List.mem_map.mp hp
    exact ⟨hm, rfl⟩
  have f10 : ∀ m, m ≠ me → c1.f m = 0 := fun m hm => by
    rcases ast with ⟨_, _, e⟩ | ⟨_, _, e⟩
    · rw [e]; unfold updI; rw [if_neg hm]
    · rw [e]
  refine ⟨_, rfl, _, rfl, _, rfl, y, wa, ma, n, me, c1, hs, W, mo, rfl, o1.symm, O, n60, m0, m1, kwa7, dwa7, kma7, by rw [nu1]; exact waN, by rw [nu1]; exact maN, ndW, fun p hp => ⟨((mls _).mp (mW p hp).1).1, by rw [(mW p hp).2]; exact (oft _).1, by rw [(mW p hp).2]; exact (oft _).2, fun ne => f10 _ ne⟩, fun G0 O0 f0 => ?_⟩
  refine ⟨_, rfl, iteF' rfl ?_⟩
  obtain ⟨c2, ec2⟩ : ∃ c2 : One, c2 = heardO c1 (wentF me mo W c1.f) := ⟨_, rfl⟩
  rw [← ec2] at O0
  have c2o : c2.o = y := by rw [ec2]; exact o1
  have c2nu : c2.nu = c0.nu := by rw [ec2]; exact nu1
  have c2rs : c2.rs = rangeI n := by rw [ec2]; exact rs1
  have c2rnd : c2.rnd = 0 := by rw [ec2]; exact rnd1
  have c2bg : c2.bg = .non := by rw [ec2]; exact bg1
  have c2ps : c2.ps = [] := by rw [ec2]; exact ps1
  have c2f : ∀ m ∈ ls, c2.f m = oweF W m + wantsI mo m := fun m hm => by
    have hmW : (m, oftI b6 me m) ∈ W := by rw [eW]; exact List.mem_map.mpr ⟨m, hm, rfl⟩
    have ho : oweF W m = oftI b6 me m := owe_mem ndW hmW
    rw [ec2]
    show wentF me mo W c1.f m = _
    rw [ho]
    by_cases e : m = me
    · rw [e, wentF_me]
      have o0 : oftI b6 me me = 0 := by unfold oftI; simp
      rw [o0]
      rcases ast with ⟨h, _, e⟩ | ⟨h, _, e⟩
      · rw [e]; unfold updI wantsI; rw [if_pos rfl, if_pos h]; rfl
      · rw [e]; unfold wantsI; rw [if_neg h]; rfl
    · exact wentF_mem ndW hmW e
  have owe0 : oweF W me = 0 := by
    have hmW : (me, oftI b6 me me) ∈ W := by rw [eW]; exact List.mem_map.mpr ⟨me, meL, rfl⟩
    rw [show oweF W me = oftI b6 me me from owe_mem ndW hmW]
    unfold oftI
    simp
  have oweN : ∀ m ∈ ls, 0 ≤ oweF W m := fun m hm => by
    have hmW : (m, oftI b6 me m) ∈ W := by rw [eW]; exact List.mem_map.mpr ⟨m, hm, rfl⟩
    rw [show oweF W m = oftI b6 me m from owe_mem ndW hmW]
    exact (oft m).1
  have st2 : (me ∈ mo ∧ c2.st = "asking") ∨ (me ∉ mo ∧ c2.st = "out") := by
    rw [ec2]
    rcases ast with ⟨h, e, _⟩ | ⟨h, e, _⟩
    · exact .inl ⟨h, e⟩
    · exact .inr ⟨h, e⟩
  have f60 : FrN [c0.nu] H6 G0 := fG.trans (by rw [← nu1]; exact f0)
  clear ec2 ast kda7 kla7 kma7 kwa7 dwa7 O fG f0
  have kda7 := lst_frn f60 kda6 (by simpa using daN)
  have kla7 := lst_frn f60 kla6 (by simpa using laN)
  have kma7 := lst_frn f60 kma6 (by simpa using maN)
  have kwa7 := lst_frn f60 kwa (by simpa using waN)
  have dwa7 := dps_kt (fun a xs => sqt_frn f60) _ _ (noLs_pairs W) dwa
  have hS8 : SqL K G0 sa (ns.map V.int) := sql_frn hS s06 f60 (fun x hx => by rw [List.mem_singleton.mp hx]; exact nuH)
  refine ⟨_, rfl, da, dl, rfl, SqL.of kda7, fun od0 p0 pm0 up0 hp0 => ?_⟩
  have t1 := same_upd (o := .lst (od0.map V.int)) hp0
  have ldl : dl.length ≤ n.toNat := nd_len ndD fun m hm => (bD m hm).1
  refine ⟨_, rfl, sa, ns, 4, rfl, t1.seq hS8, by decide, bits, fun c8 _ => ⟨_, _, rfl, rfl, ⟨by decide, by decide, by decide⟩, _, _, rfl, rfl, (by show (0 : Int) < 10 ^ 6; decide), p0, od0, _, rfl, upd_same, by rw [pm0.length_eq]; omega, fun oa od H8 t2 hoa pmo koa => ?_⟩⟩
  have pod : od.Perm dl := pmo.trans pm0
  have t12 := t1.trans t2
  have lod : od.length ≤ 60 := by rw [pod.length_eq]; omega
  have ndO : od.Nodup := pod.nodup_iff.mpr ndD
  have neO : od ≠ [] := fun e => by
    rw [e] at pod
    exact neD (List.Perm.eq_nil pod.symm)
  have mO : ∀ m, m ∈ od ↔ m ∈ dl := fun m => pod.mem_iff
  have bO : ∀ m ∈ od, 0 ≤ m ∧ m < n ∧ m ≠ me := fun m hm => by
    have h1 := (mO m).mp hm
    have h2 := (bD m h1).1
    exact ⟨h2.1, h2.2, fun e => mnd (by rw [← e]; exact h1)⟩
  have leastO : ∀ m, 0 ≤ m → m < n → m ∉ od → me ≤ m := fun m h0 h1 h2 => least m ((mls m).mpr ⟨⟨h0, h1⟩, fun z => h2 ((mO m).mpr z)⟩)
  have rsL : rsJ n od od.length = ls := by
    rw [els]
    unfold rsJ
    rw [List.take_length]
    refine List.filter_congr fun m _ => ?_
    rw [decide_eq_decide.mpr (mO m)]
  refine ⟨Nat.zero_le _, fun l0 hl0 => ?_⟩
  have t3 := same_upd (o := .lst []) hl0
  have t13 := t12.trans t3
  have kl0 : upd H8 l0 (.lst []) l0 = some (.lst []) := upd_same
  obtain ⟨H9, e9⟩ : ∃ H9, H9 = upd H8 l0 (.lst []) := ⟨_, rfl⟩
  rw [← e9] at t3 t13 kl0
  rw [← e9]
  have l0N : l0 ≠ c0.nu := by
    have h1 := (O0.same t12).at_.hn
    rw [c2nu] at h1
    exact (ne_of_none h1 hl0).symm
  clear e9
  have oaN : oa ≠ c0.nu := by
    have h1 := (O0.same t1).at_.hn
    rw [c2nu] at h1
    exact (ne_of_none h1 hoa).symm
  have kla9 := t13 _ _ kla7
  have kma9 := t13 _ _ kma7
  have kwa9 := t13 _ _ kwa7
  have dwa9 := dps_same t13 _ _ dwa7
  have koa9 := t3 _ _ koa
  have O9 := O0.same t13
  have hS9 := t13.seq hS8
  have lle : (((ls.map V.int).length : Nat) : Int) = 1 + (tl.length : Int) := by rw [emt, List.map_cons, List.length_cons, List.length_map]; omega
  apply goJ (fun σ G => ∃ (lta : Addr) (lt : List Int), σ = [some (V.ref sa), some (V.int n), some (V.int b), some (V.int k), some (V.ref da), some (V.ref la), none, some (V.int b6), some (V.ref ma), some (V.ref y), some (V.ref wa), z11, some (V.ref oa), some (V.ref lta), none, none] ∧ Same H9 G ∧ G lta = some (.lst (lt.map V.int)) ∧ lta ≠ c0.nu ∧ (lt = [] ∨ ∃ m2, m2 ∈ tl ∧ lt = [m2, oweF W m2 + wantsI mo m2, wantsI mo m2]))
  · intro J
    refine ⟨_, rfl, la, _, rfl, .inl (SqL.of kla9), _, _, rfl, rfl, _, rfl, ?_⟩
    by_cases ct : tl = []
    · refine iteF' (decide_eq_false (by rw [lle, ct]; decide)) (iteF ?_)
      exact J _ _ ⟨l0, [], rfl, Same.refl _, kl0, l0N, .inl rfl⟩
    obtain ⟨m2, tl2, etl⟩ : ∃ m2 tl2, tl = m2 :: tl2 := by
      cases h : tl with
      | nil => exact absurd h ct
      | cons x xs => exact ⟨x, xs, rfl⟩
    refine iteT' (decide_eq_true (by rw [lle, etl, List.length_cons]; omega)) ?_
    refine ⟨_, rfl, sa, ns, 4, rfl, hS9, by decide, bits, fun c10 _ => ⟨_, _, rfl, rfl, ⟨by decide, by decide⟩, _, _, rfl, rfl, (by show (0 : Int) < 2; decide), rfl, _, rfl, ?_⟩⟩
    refine ite2 (fun _ => ?_) (fun _ => ?_)
    · have m2l : m2 ∈ ls := by rw [emt, etl]; simp
      have m2n : m2 ≠ me := fun e => by
        rw [emt, etl] at upL
        have := (List.pairwise_cons.mp upL).1 m2 (by simp)
        omega
      have at1 : atI (ls.map V.int) 1 = some (.int m2) := by rw [emt, etl]; exact atI_nat (j := 1) rfl
      obtain ⟨pr, hpr⟩ : ∃ pr, W[1]? = some pr := ⟨(m2, oftI b6 me m2), by rw [eW, emt, etl]; rfl⟩
      have epr : pr = (m2, oftI b6 me m2) := by rw [eW, emt, etl] at hpr; exact (Option.some.inj hpr).symm
      have l1 : 1 < hs.length := by rw [lhs]; exact (List.getElem?_eq_some_iff.mp hpr).1
      obtain ⟨xv, hxv⟩ : ∃ xv, hs[1]? = some xv := ⟨hs[1], List.getElem?_eq_getElem l1⟩
      obtain ⟨pr2, er2, dp⟩ := dps_at' dwa9 hxv
      rw [hpr] at er2
      cases er2
      obtain ⟨t, v1, v2, rfl, qt, d1, d2⟩ := two_dp dp
      cases d1
      cases d2
      have ho : pr.2 = oweF W m2 := by
        rw [epr]
        exact (owe_mem ndW (by rw [eW]; exact List.mem_map.mpr ⟨m2, m2l, rfl⟩ : (m2, oftI b6 me m2) ∈ W)).symm
      have ew : (if decide (m2 ∈ mo) = true then (1 : Int) else 0) = wantsI mo m2 := by unfold wantsI; simp
      refine ⟨_, rfl, la, _, _, _, rfl, rfl, SqL.of kla9, at1, _, rfl, wa, _, _, _, rfl, rfl, SqL.of kwa9, atI_nat (j := 1) hxv, t, _, _, _, rfl, rfl, qt, atI_nat (j := 1) rfl, _, rfl, la, _, _, _, rfl, rfl, SqL.of kla9, at1, _, rfl, .inl ⟨ma, _, rfl, .inl (SqL.of kma9), rfl, flat_ints _, ?_⟩⟩
      rw [inV_ints]
      refine .inr ⟨decide (m2 ∈ mo), rfl, _, _, rfl, rfl, ?_⟩
      refine ⟨_, rfl, la, _, _, _, rfl, rfl, SqL.of kla9, at1, _, rfl, .inl ⟨ma, _, rfl, .inl (SqL.of kma9), rfl, flat_ints _, ?_⟩⟩
      rw [inV_ints]
      refine .inr ⟨decide (m2 ∈ mo), rfl, by show 3 ≤ sizeLine; decide, fun lt hlt => ?_⟩
      rw [ew, ho]
      have lN : lt ≠ c0.nu := by
        have h1 := O9.at_.hn
        rw [c2nu] at h1
        exact (ne_of_none h1 hlt).symm
      exact J _ _ ⟨lt, [m2, oweF W m2 + wantsI mo m2, wantsI mo m2], rfl, same_upd hlt, upd_same, lN, .inr ⟨m2, by rw [etl]; simp, rfl⟩⟩
    · exact J _ _ ⟨l0, [], rfl, Same.refl _, kl0, l0N, .inl rfl⟩
  rintro σ G2 ⟨lta, lt, rfl, t4, klt, nlt, hlt⟩
  have kla10 := t4 _ _ kla9
  have kma10 := t4 _ _ kma9
  have kwa10 := t4 _ _ kwa9
  have dwa10 := dps_same t4 _ _ dwa9
  have koa10 := t4 _ _ koa9
  have O10 := O9.same t4
  have hS10 := t4.seq hS9
  refine ⟨_, rfl, la, _, rfl, .inl (SqL.of kla10), rfl, _, rfl, ?_⟩
  by_cases ct : tl = []
  · refine iteT' (by rw [dec_ii, lle, ct]; rfl) ?_
    have lsM : ls = [me] := by rw [emt, ct]
    refine ⟨_, rfl, _, rfl, _, rfl, y, oa, ma, n, me, c2, od, mo, rfl, c2o.symm, O10, n60, m0, m1, c2rs, c2rnd, c2bg, c2ps, koa10, by rw [c2nu]; exact oaN, kma10, by rw [c2nu]; exact maN, ndO, neO, bO, leastO, rsL.trans lsM, ?_, ?_, q⟩
    · unfold othO askN
      rw [c2f me meL, owe0]
      unfold wantsI
      rcases st2 with ⟨h, e⟩ | ⟨h, e⟩
      · rw [e, if_pos h, if_pos rfl]; rfl
      · rw [e, if_neg h, if_neg (by decide +kernel)]; rfl
    · rcases st2 with ⟨h, e⟩ | ⟨h, e⟩
      · exact .inl ⟨fun z => by rw [z] at h; exact absurd h List.not_mem_nil, e⟩
      · refine .inr ⟨?_, e⟩
        cases hm : mo with
        | nil => rfl
        | cons x xs =>
          exfalso
          have hx : x ∈ mo := by rw [hm]; simp
          have := mmo x hx
          rw [lsM] at this
          exact h (by rw [← List.mem_singleton.mp this]; exact hx)
  refine iteF' (by rw [dec_ii, lle]; exact decide_eq_false fun z => ct (List.length_eq_zero_iff.mp (by omega))) ?_
  refine ⟨_, rfl, _, rfl, _, rfl, y, oa, lta, n, me, c2, od, lt, rfl, c2o.symm, O10, n60, m0, m1, c2rs, c2rnd, c2bg, c2ps, koa10, by rw [c2nu]; exact oaN, klt, by rw [c2nu]; exact nlt, ndO, neO, bO, leastO, ?_, .inl ⟨?_, fun g cj H11 g0 g1 M f11 => ?_⟩⟩
  · rcases hlt with e | ⟨m2, hm2, e⟩
    · exact .inl e
    · have hl : m2 ∈ ls := by rw [emt]; exact List.mem_cons_of_mem _ hm2
      have h1 := (mls m2).mp hl
      refine .inr ⟨m2, _, _, e, h1.1.1, h1.1.2, fun z => ?_, fun z => h1.2 ((mO m2).mp z), by rw [c2f m2 hl]; omega⟩
      rw [emt] at upL
      have := (List.pairwise_cons.mp upL).1 m2 hm2
      omega
  · rw [rsL, emt]
    intro z
    injection z with _ z
    exact ct z
  refine ⟨_, rfl, rfl, _, rfl, iteF' rfl ?_⟩
  rw [c2nu] at f11
  have kla11 := lst_frn f11 kla10 (by simpa using laN)
  have kma11 := lst_frn f11 kma10 (by simpa using maN)
  have kwa11 := lst_frn f11 kwa10 (by simpa using waN)
  have klt11 := lst_frn f11 klt (by simpa using nlt)
  have dwa11 := dps_kt (fun a xs => sqt_frn f11) _ _ (noLs_pairs W) dwa10
  have f611 : FrN [c0.nu] H6 H11 := (f60.trans (Same.frn (t13.trans t4))).trans f11
  have hS11 : SqL K H11 sa (ns.map V.int) := sql_frn hS s06 f611 (fun x hx => by rw [List.mem_singleton.mp hx]; exact nuH)
  refine ⟨_, rfl, la, rfl, ⟨_, SqL.of kla11⟩, fun D hD => ?_⟩
  refine lc_filtI (K := K) (a := la) (ns := ls) (fun m => !decide (m = me)) (by omega) hD (SqL.of kla11) (fun i x G Y B hx sG h => ?_) (fun H12 s12 kD => ?_)
  · have A1 := (M.on.same sG).at_
    refine ⟨rfl, _, rfl, _, rfl, y, C, cj.dx, _, _, rfl, by rw [← c2o, ← M.eo]; exact A1.hp, S.cl, S.me, caF_me _ _ _ _ _ _ _ _ _, rfl, _, rfl, ?_⟩
    exact tst (by rw [dec_ii]) (fun y => ⟨_, rfl, y⟩) h
  have kD : H12 D = some (.lst ((othR ls me).map V.int)) := kD
  refine ⟨_, rfl, _, rfl, _, rfl, _, rfl, sa, ns, 5, rfl, s12.seq hS11, by decide, bits, fun c9 _ => ⟨_, _, rfl, rfl, ⟨by decide, by decide, by decide⟩, _, _, rfl, rfl, (by show (0 : Int) < 10 ^ 6; decide), D, othR ls me, _, rfl, kD, ?_, fun ob oth H13 s13 hob pob kob => ?_⟩⟩
  · have := List.length_filter_le (fun s => !decide (s = me)) ls
    unfold othR
    omega
  have s123 := s12.trans s13
  have OJ := M.on.same s123
  have obN : ob ≠ cj.nu := (ne_of_none (M.on.same s12).at_.hn hob).symm
  have cjn : cj.nu = c0.nu := M.en.trans c2nu
  refine ⟨_, rfl, _, rfl, _, rfl, y, ob, wa, ma, lta, n, me, g, cj, ls, oth, mo, lt, W, hs, rfl, (M.eo.trans c2o).symm, OJ, ?_, ⟨M.er.trans rsL, M.em, ?_, g0, g1, m0, m1, n60, pob, ?_, fW, upL, meL, least, fun m hm => ((mls m).mp hm).1, owe0, oweN, fun m hm => by rw [M.ef]; exact c2f m hm, ?_⟩, kob, obN, s123 _ _ kwa11, dps_same s123 _ _ dwa11, by rw [cjn]; exact waN, s123 _ _ kma11, by rw [cjn]; exact maN, s123 _ _ klt11, by rw [cjn]; exact nlt, ?_, lmo, q⟩
  · rw [M.ps rfl g0]
    unfold othO askN
    rw [c2f me meL, owe0]
    unfold wantsI
    rcases st2 with ⟨h, e⟩ | ⟨h, e⟩
    · rw [e, if_pos h, if_pos rfl]; rfl
    · rw [e, if_neg h, if_neg (by decide +kernel)]; rfl
  · rcases M.bg with ⟨e, _⟩ | ⟨_, e⟩
    · omega
    · exact e
  · intro e
    rw [e] at pob
    have h1 : othR ls me = [] := List.Perm.eq_nil pob.symm
    obtain ⟨m2, tl2, etl⟩ : ∃ m2 tl2, tl = m2 :: tl2 := by
      cases h : tl with
      | nil => exact absurd h ct
      | cons x xs => exact ⟨x, xs, rfl⟩
    have h2 : m2 ∈ othR ls me := by
      refine List.mem_filter.mpr ⟨by rw [emt, etl]; simp, ?_⟩
      rw [emt, etl] at upL
      have := (List.pairwise_cons.mp upL).1 m2 (by simp)
      simp
      omega
    rw [h1] at h2
    exact absurd h2 List.not_mem_nil
  · rw [M.es]; exact st2
  · rcases hlt with e | ⟨m2, _, e⟩
    · rw [e]; exact Nat.zero_le _
    · rw [e]; exact Nat.le_refl _
end

end G0
namespace G0
open PySem PySem.Spec PyProof.Rows L2 NdefX ClX
/-! ### the whole -/
theorem made_of {P : Program} {w : World} {K : PySem.W.Frag} {mg : Str → Option Value} {base : Heap} {C CK fI cc cda Dk fS fK : Addr} {ocI dcI pmI ctI clI ccl : Value} {odI anI cldI cdd : Option Addr} {oslI csl ccs : Array (Option Value)} {vs : Array Value} {file : Str} {tf td : Tok} {cdD : ClassData} {fd2 fdK : FuncData}
    (T : BlC71 mg) (S : CalT K C) (mgC : mg "Caller" = some (.ref C)) (mk : PySem.W.makesIn K C = true) (kc : PySem.W.keepIn K (.ref C) = true)
    (FS : Fun K "__init__" "Seat.__init__" s_Seat__init fS fd2)
    (i1 : PySem.W.findIn K (.ref C) "__init__" = some (some (.ref fI))) (i2 : PySem.W.isFn K (.ref fI) = true)
    (i3 : K.lookup fI = some ⟨ocI, odI, .func (PySem.W.ksFn "__init__" "Caller.__init__" (defArgs s_Caller__init) (defBody s_Caller__init) (defScope s_Caller__init) .none (.ref Dk) dcI pmI anI (.ref cda) ctI cc), oslI⟩)
    (i4 : PySem.W.codeIn K (.ref cda) "Caller.__init__" = true) (i5 : K.lookup cc = some ⟨clI, cldI, .cell (some (.ref C)), csl⟩) (i6 : K.lookup cda = some ⟨ccl, cdd, .fields vs, ccs⟩)
    (w7 : vs[2]? = some (.str file tf)) (w8 : ((P.main.file : Str) == file) = true) (w9 : PySem.W.clsIn K C = some cdD) (i10 : PySem.W.nsIn K mainGlobals "super" = some none)
    (w11 : (P.main.scope.names.lookup ("super" : Str)).isSome = false) (i12 : PySem.W.nsIn K cStatics "thirdparty.any" = some none) (w13 : PySem.W.mroIn K C (.ref C) = some true)
    (w14 : PySem.W.ks_superIn K C C "__init__" = some (some (.ref fS))) (i15 : PySem.W.typeIn K (.ref fS) = some (.type "function")) (w16 : PySem.W.fnIn K fS = true)
    (i17 : PySem.W.nsIn K Dk "first" = some (some (.int 0 td)))
    (KT : KeyT K CK) (KKm : Mk K CK fK) (FK : Fun K "__init__" "Key.__init__" s_Key__init fK fdK) (gK : mg "Key" = some (.ref CK)) : MkC P w K mg base C CK := by
  have F2 : FnR P w K mg base CX0 1 fS (spSeat0 C) := fnR_of (ps := ["self", "me"]) (ok_seat0 FS S.cl S.me S.state S.sits) (FS.binds (fun _ _ _ _ _ _ us hl => match us, hl with | [_, _], _ => rfl) )
  have F : SupF P K ["self", "me", "seats", "first", "__class__", "seat"] fI cc cda C (PySem.W.ksFn "__init__" "Caller.__init__" (defArgs s_Caller__init) (defBody s_Caller__init) (defScope s_Caller__init) .none (.ref Dk) dcI pmI anI (.ref cda) ctI cc) (defArgs s_Caller__init) (defScope s_Caller__init) := {
    fun_ := ⟨_, _, _, i3, rfl⟩
    arg := ⟨_, rfl, rfl, by decide +kernel⟩
    code := ⟨_, _, _, _, _, _, i6, w7, w8⟩
    cell := ⟨_, _, _, i5⟩
    cls := ⟨_, w9⟩
    miss := i10
    sup := by decide +kernel
    own := by decide +kernel
    kind := rfl
    top := w11
    any_ := i12 }
  have GK := ok_kinit (P := P) (w := w) (base := base) FK T.list KT
  have bK : Binds K fdK ["self", "of_round", "served", "line"] [] := FK.binds (fun _ _ _ _ _ _ us hl => match us, hl with | [_, _, _, _], _ => rfl) 
  refine ⟨⟨fI, _, [.int 0 td], ok_cinit T i3 i4 i5 F F2 S w13 w14 i15 w16 KKm GK bK gK, .cons ⟨td, rfl⟩ .nil, fun s us X hl => ?_, ⟨fun s us ws X l1 l2 => ?_, fun r1 r2 => r1.append r2⟩, ⟨mk, i1, i2, kc⟩⟩, mgC⟩
  · have l3 : us.length = 3 := by
      rw [List.length_append] at hl
      exact Nat.succ.inj hl
    refine BindsTo.of_looks fun M => KwChain.looks (l := [("first", .int 0 td)]) X (fun q hq => by
      rw [List.mem_singleton.mp hq]
      exact i17) ?_
    match us, l3 with
    | [_, _, _], _ => exact ⟨_, _, _, _, _, _, rfl, rfl, rfl⟩
  · match us, ws, l1, l2 with
    | [_, _, _], [_], _, _ => exact .of_eq rfl
theorem me_of {P : Program} {w : World} {K : PySem.W.Frag} {mg : Str → Option Value} {base : Heap} {C : Addr} {x qual : Str} {st : Stmt} {k : Nat} {ps : List Str} {sp : Sp}
    (F : Fm K C x qual st) (ok : ∀ f fd, Fun K x qual st f fd → FnOk P w K mg base CX0 k f fd ps sp)
    (bd : ∀ (kV doc pm : Value) (an : Option Addr) (cdv ct : Value) (us : List Value), us.length = ps.length →
      bindArgs (PySem.W.fnOf x qual (defArgs st) (defBody st) (defScope st) .none kV doc pm an cdv ct) ⟨us, []⟩ = pure (ps.zip us)) :
    Me P w K mg base C x k ps sp := by
  obtain ⟨f, fd, F, m⟩ := F
  exact ⟨f, fd, ok f fd F, F.binds bd, m⟩
theorem whole {P : Program} {w : World} {K : PySem.W.Frag} {mg : Str → Option Value} {base : Heap} {C CK fK : Addr} (T : BlC71 mg) (MX : mg "max" = none) (MA : mg "any" = none) (S : CalT K C) (KT : KeyT K CK) (MC : MkC P w K mg base C CK)
    (KKm : Mk K CK fK) {fdK : FuncData} (FK : Fun K "__init__" "Key.__init__" s_Key__init fK fdK) (gK : mg "Key" = some (.ref CK))
    (F_law_cell_at : Fn K mg "_law_cell_at" s_law_cell_at) (F_law_bits : Fn K mg "_law_bits" s_law_bits) (F_law_turned : Fn K mg "_law_turned" s_law_turned) (F_law_gone_by : Fn K mg "_law_gone_by" s_law_gone_by) (F_law_heard : Fn K mg "_law_heard" s_law_heard) (F_law_marks_heard : Fn K mg "_law_marks_heard" s_law_marks_heard) (F_law_line : Fn K mg "_law_line" s_law_line) (F_law_made : Fn K mg "_law_made" s_law_made) (F_law_elder_heard : Fn K mg "_law_elder_heard" s_law_elder_heard) (F_law_pledges_heard : Fn K mg "_law_pledges_heard" s_law_pledges_heard) (F_law_alone : Fn K mg "_law_alone" s_law_alone) (F_law : Fn K mg "law" s_law)
    (K_told : Fm K CK "told" "Key.told" s_Key_told) (K_line_up : Fm K CK "line_up" "Key.line_up" s_Key_line_up) (K_take_first : Fm K CK "take_first" "Key.take_first" s_Key_take_first) (K_is_due : Fm K CK "_is_due" "Key._is_due" s_Key_is_due) (V_ask : Fm K C "ask" "Caller.ask" s_Caller_ask) (V_hear : Fm K C "hear" "Caller.hear" s_Caller_hear) (V_gone : Fm K C "gone" "Caller.gone" s_Caller_gone) (V_bears : Fm K C "bears" "Caller.bears" s_Caller_bears) (V_roster : Fm K C "roster" "Caller.roster" s_Caller_roster) (V_numbers : Fm K C "numbers" "Caller.numbers" s_Caller_numbers) (V_awaits : Fm K C "awaits" "Caller.awaits" s_Caller_awaits) (V_to_others : Fm K C "_to_others" "Caller._to_others" s_Caller_to_others) (V_learn : Fm K C "_learn" "Caller._learn" s_Caller_learn) (V_hear_ask : Fm K C "_hear_ask" "Caller._hear_ask" s_Caller_hear_ask) (V_hear_pledge : Fm K C "_hear_pledge" "Caller._hear_pledge" s_Caller_hear_pledge) (V_begin : Fm K C "_begin" "Caller._begin" s_Caller_begin) (V_pledge : Fm K C "_pledge" "Caller._pledge" s_Caller_pledge) (V_make_key : Fm K C "_make_key" "Caller._make_key" s_Caller_make_key) (V_hand_on : Fm K C "_hand_on" "Caller._hand_on" s_Caller_hand_on) : Cal P w K mg base "law" 10 ["script"] (spLaw K) := by
  have T1 : BlL72 mg := ⟨T.len⟩
  have T2 : BlT97 mg := ⟨T1, T.range, T.int, T.tuple⟩
  have TS : BlS97 mg := ⟨T2, T.sorted⟩
  have T3 : BlM72 mg := ⟨T.len, MX⟩
  have To := me_of (P := P) (w := w) (mg := mg) (base := base) (ps := ["self"]) K_told (fun f fd F => ok_told F ⟨T.sorted, T.tuple⟩ KT) (fun _ _ _ _ _ _ us hl => match us, hl with | [_], _ => rfl) 
  have Du := me_of (P := P) (w := w) (mg := mg) (base := base) (ps := ["self", "member", "number"]) K_is_due (fun f fd F => ok_due F KT) (fun _ _ _ _ _ _ us hl => match us, hl with | [_, _, _], _ => rfl) 
  have Lu := me_of (P := P) (w := w) (mg := mg) (base := base) (ps := ["self", "behind", "roster", "numbers"]) K_line_up (fun f fd F => ok_lineup F KT Du) (fun _ _ _ _ _ _ us hl => match us, hl with | [_, _, _, _], _ => rfl) 
  have Tf := me_of (P := P) (w := w) (mg := mg) (base := base) (ps := ["self"]) K_take_first (fun f fd F => ok_take F T1 KT) (fun _ _ _ _ _ _ us hl => match us, hl with | [_], _ => rfl) 
  have Ot := me_of (P := P) (w := w) (mg := mg) (base := base) (ps := ["self", "letter"]) V_to_others (fun f fd F => ok_tooth F S) (fun _ _ _ _ _ _ us hl => match us, hl with | [_, _], _ => rfl) 
  have Le := me_of (P := P) (w := w) (mg := mg) (base := base) (ps := ["self", "seat", "number"]) V_learn (fun f fd F => ok_learn F T3 S) (fun _ _ _ _ _ _ us hl => match us, hl with | [_, _, _], _ => rfl) 
  have Ho := me_of (P := P) (w := w) (mg := mg) (base := base) (ps := ["self"]) V_hand_on (fun f fd F => ok_handon F S KT Lu Tf To) (fun _ _ _ _ _ _ us hl => match us, hl with | [_], _ => rfl) 
  have As := me_of (P := P) (w := w) (mg := mg) (base := base) (ps := ["self"]) V_ask (fun f fd F => ok_askC F S Ot) (fun _ _ _ _ _ _ us hl => match us, hl with | [_], _ => rfl) 
  have Ha := me_of (P := P) (w := w) (mg := mg) (base := base) (ps := ["self", "sender", "number"]) V_hear_ask (fun f fd F => ok_hearask F S Le Ho) (fun _ _ _ _ _ _ us hl => match us, hl with | [_, _, _], _ => rfl) 
  have GK := ok_kinit (P := P) (w := w) (mg := mg) (base := base) FK T.list KT
  have bK : Binds K fdK ["self", "of_round", "served", "line"] [] := FK.binds (fun _ _ _ _ _ _ us hl => match us, hl with | [_, _, _, _], _ => rfl) 
  have Aw := me_of (P := P) (w := w) (mg := mg) (base := base) (ps := ["self"]) V_awaits (fun f fd F => ok_awaits F S) (fun _ _ _ _ _ _ us hl => match us, hl with | [_], _ => rfl) 
  have Pl := me_of (P := P) (w := w) (mg := mg) (base := base) (ps := ["self", "of_round", "members"]) V_pledge (fun f fd F => ok_plg F S) (fun _ _ _ _ _ _ us hl => match us, hl with | [_, _, _], _ => rfl) 
  have Mk := me_of (P := P) (w := w) (mg := mg) (base := base) (ps := ["self"]) V_make_key (fun f fd F => ok_make F S KT KKm GK bK gK Ho) (fun _ _ _ _ _ _ us hl => match us, hl with | [_], _ => rfl) 
  have Hp := me_of (P := P) (w := w) (mg := mg) (base := base) (ps := ["self", "sender", "pledge"]) V_hear_pledge (fun f fd F => ok_hearPl F T.len MA S Le Aw Mk) (fun _ _ _ _ _ _ us hl => match us, hl with | [_, _, _], _ => rfl) 
  have Bg := me_of (P := P) (w := w) (mg := mg) (base := base) (ps := ["self"]) V_begin (fun f fd F => ok_begin F T S Ot Pl Hp) (fun _ _ _ _ _ _ us hl => match us, hl with | [_], _ => rfl) 
  have Go := me_of (P := P) (w := w) (mg := mg) (base := base) (ps := ["self", "seat"]) V_gone (fun f fd F => ok_goneC F S Bg) (fun _ _ _ _ _ _ us hl => match us, hl with | [_, _], _ => rfl) 
  have He := me_of (P := P) (w := w) (mg := mg) (base := base) (ps := ["self", "sender", "letter"]) V_hear (fun f fd F => ok_hear97 F S Ha Hp) (fun _ _ _ _ _ _ us hl => match us, hl with | [_, _, _], _ => rfl) 
  have Be := me_of (P := P) (w := w) (mg := mg) (base := base) (ps := ["self"]) V_bears (fun f fd F => ok_bears F S KT To) (fun _ _ _ _ _ _ us hl => match us, hl with | [_], _ => rfl) 
  have Ro := me_of (P := P) (w := w) (mg := mg) (base := base) (ps := ["self"]) V_roster (fun f fd F => ok_roster F T S) (fun _ _ _ _ _ _ us hl => match us, hl with | [_], _ => rfl) 
  have Nu := me_of (P := P) (w := w) (mg := mg) (base := base) (ps := ["self"]) V_numbers (fun f fd F => ok_numbers F T S) (fun _ _ _ _ _ _ us hl => match us, hl with | [_], _ => rfl) 
  have Ce := ok_cell (P := P) (w := w) (base := base) F_law_cell_at T1
  have Tu := ok_turned (P := P) (w := w) (base := base) F_law_turned T2
  have Gb := ok_goneby (P := P) (w := w) (base := base) F_law_gone_by T2
  have Hd := ok_heard97 (CK := CK) F_law_heard T2 S He Nu
  have Ma := ok_marks (CK := CK) F_law_marks_heard T2 S He Be Go Aw Ro
  have Al := ok_alone F_law_alone T2 S Ma Be Aw
  have El := ok_elder (CK := CK) F_law_elder_heard T2 S He Be
  have Li := ok_line (P := P) (w := w) (mg := mg) (base := base) F_law_line S
  have Md := ok_made F_law_made T2 S Be
  have Ph := ok_pledges F_law_pledges_heard TS S El Li Md He Be Aw
  exact ok_law F_law TS S MC Ce (ok_bits F_law_bits) Gb Tu Hd Ma Al Ph As
theorem all_mk {P : Program} {w : World} {K : PySem.W.Frag} {h : Heap} {mg : Str → Option Value} {fa : Addr}
    {C_Caller : Addr} {C_Seat : Addr} {C_Key : Addr} {f1 : Addr} {od1 an1 : Option Addr} {sl1 : Array (Option Value)} {oc1 kV1 dc1 pm1 cd1 ct1 : Value} {f2 : Addr} {od2 an2 : Option Addr} {sl2 : Array (Option Value)} {oc2 kV2 dc2 pm2 cd2 ct2 : Value} {f3 : Addr} {od3 an3 : Option Addr} {sl3 : Array (Option Value)} {oc3 kV3 dc3 pm3 cd3 ct3 : Value} {f4 : Addr} {od4 an4 : Option Addr} {sl4 : Array (Option Value)} {oc4 kV4 dc4 pm4 cd4 ct4 : Value} {f5 : Addr} {od5 an5 : Option Addr} {sl5 : Array (Option Value)} {oc5 kV5 dc5 pm5 cd5 ct5 : Value} {f6 : Addr} {od6 an6 : Option Addr} {sl6 : Array (Option Value)} {oc6 kV6 dc6 pm6 cd6 ct6 : Value} {f7 : Addr} {od7 an7 : Option Addr} {sl7 : Array (Option Value)} {oc7 kV7 dc7 pm7 cd7 ct7 : Value} {f8 : Addr} {od8 an8 : Option Addr} {sl8 : Array (Option Value)} {oc8 kV8 dc8 pm8 cd8 ct8 : Value} {f9 : Addr} {od9 an9 : Option Addr} {sl9 : Array (Option Value)} {oc9 kV9 dc9 pm9 cd9 ct9 : Value} {f10 : Addr} {od10 an10 : Option Addr} {sl10 : Array (Option Value)} {oc10 kV10 dc10 pm10 cd10 ct10 : Value} {f11 : Addr} {od11 an11 : Option Addr} {sl11 : Array (Option Value)} {oc11 kV11 dc11 pm11 cd11 ct11 : Value} {f12 : Addr} {od12 an12 : Option Addr} {sl12 : Array (Option Value)} {oc12 kV12 dc12 pm12 cd12 ct12 : Value} {f13 : Addr} {od13 an13 : Option Addr} {sl13 : Array (Option Value)} {oc13 kV13 dc13 pm13 cd13 ct13 : Value} {f14 : Addr} {od14 an14 : Option Addr} {sl14 : Array (Option Value)} {oc14 kV14 dc14 pm14 cd14 ct14 : Value} {f15 : Addr} {od15 an15 : Option Addr} {sl15 : Array (Option Value)} {oc15 kV15 dc15 pm15 cd15 ct15 : Value} {f16 : Addr} {od16 an16 : Option Addr} {sl16 : Array (Option Value)} {oc16 kV16 dc16 pm16 cd16 ct16 : Value} {f17 : Addr} {od17 an17 : Option Addr} {sl17 : Array (Option Value)} {oc17 kV17 dc17 pm17 cd17 ct17 : Value} {f18 : Addr} {od18 an18 : Option Addr} {sl18 : Array (Option Value)} {oc18 kV18 dc18 pm18 cd18 ct18 : Value} {f19 : Addr} {od19 an19 : Option Addr} {sl19 : Array (Option Value)} {oc19 kV19 dc19 pm19 cd19 ct19 : Value} {f20 : Addr} {od20 an20 : Option Addr} {sl20 : Array (Option Value)} {oc20 kV20 dc20 pm20 cd20 ct20 : Value} {f21 : Addr} {od21 an21 : Option Addr} {sl21 : Array (Option Value)} {oc21 kV21 dc21 pm21 cd21 ct21 : Value} {f22 : Addr} {od22 an22 : Option Addr} {sl22 : Array (Option Value)} {oc22 kV22 dc22 pm22 cd22 ct22 : Value} {f23 : Addr} {od23 an23 : Option Addr} {sl23 : Array (Option Value)} {oc23 kV23 dc23 pm23 cd23 ct23 : Value} {f24 : Addr} {od24 an24 : Option Addr} {sl24 : Array (Option Value)} {oc24 kV24 dc24 pm24 cd24 ct24 : Value} {f25 : Addr} {od25 an25 : Option Addr} {sl25 : Array (Option Value)} {oc25 kV25 dc25 pm25 cd25 ct25 : Value} {f26 : Addr} {od26 an26 : Option Addr} {sl26 : Array (Option Value)} {oc26 kV26 dc26 pm26 cd26 ct26 : Value} {f27 : Addr} {od27 an27 : Option Addr} {sl27 : Array (Option Value)} {oc27 kV27 dc27 pm27 cd27 ct27 : Value} {f28 : Addr} {od28 an28 : Option Addr} {sl28 : Array (Option Value)} {oc28 kV28 dc28 pm28 cd28 ct28 : Value} {f29 : Addr} {od29 an29 : Option Addr} {sl29 : Array (Option Value)} {oc29 kV29 dc29 pm29 cd29 ct29 : Value} {f30 : Addr} {od30 an30 : Option Addr} {sl30 : Array (Option Value)} {oc30 kV30 dc30 pm30 cd30 ct30 : Value} {f31 : Addr} {od31 an31 : Option Addr} {sl31 : Array (Option Value)} {oc31 kV31 dc31 pm31 cd31 ct31 : Value} {f32 : Addr} {od32 an32 : Option Addr} {sl32 : Array (Option Value)} {oc32 kV32 dc32 pm32 cd32 ct32 : Value} {f33 : Addr} {od33 an33 : Option Addr} {sl33 : Array (Option Value)} {oc33 kV33 dc33 pm33 cd33 ct33 : Value} {fI cc cda Dk : Addr} {ocI dcI pmI ctI clI ccl : Value} {odI anI cldI cdd : Option Addr} {oslI csl ccs : Array (Option Value)} {vs : Array Value} {file : Str} {tf td : Tok} {cdD : ClassData}
    (X : K.In h) (G : h.Ns mainGlobals mg) (hfa : mg "law" = some (.ref fa))
    (aC_Caller : PySem.W.nsIn K mainGlobals "Caller" = some (some (.ref C_Caller)))
    (pg_Caller : PySem.W.plainGet K C_Caller Str.empty = true)
    (hd_Caller : PySem.W.hasDictIn K C_Caller = true)
    (po_Caller : PySem.W.plainOver K C_Caller = true)
    (sa_Caller : PySem.W.findIn K (.ref C_Caller) "__setattr__" = some (some (.builtin "object.__setattr__")))
    (mk_Caller : PySem.W.makesIn K C_Caller = true)
    (kc_Caller : PySem.W.keepIn K (.ref C_Caller) = true)
    (aC_Seat : PySem.W.nsIn K mainGlobals "Seat" = some (some (.ref C_Seat)))
    (pg_Seat : PySem.W.plainGet K C_Seat Str.empty = true)
    (hd_Seat : PySem.W.hasDictIn K C_Seat = true)
    (po_Seat : PySem.W.plainOver K C_Seat = true)
    (sa_Seat : PySem.W.findIn K (.ref C_Seat) "__setattr__" = some (some (.builtin "object.__setattr__")))
    (mk_Seat : PySem.W.makesIn K C_Seat = true)
    (kc_Seat : PySem.W.keepIn K (.ref C_Seat) = true)
    (aC_Key : PySem.W.nsIn K mainGlobals "Key" = some (some (.ref C_Key)))
    (pg_Key : PySem.W.plainGet K C_Key Str.empty = true)
    (hd_Key : PySem.W.hasDictIn K C_Key = true)
    (po_Key : PySem.W.plainOver K C_Key = true)
    (sa_Key : PySem.W.findIn K (.ref C_Key) "__setattr__" = some (some (.builtin "object.__setattr__")))
    (mk_Key : PySem.W.makesIn K C_Key = true)
    (kc_Key : PySem.W.keepIn K (.ref C_Key) = true)
    (a1 : PySem.W.nsIn K mainGlobals "_law_cell_at" = some (some (.ref f1)))
    (l1 : K.lookup f1 = some ⟨oc1, od1, .func (PySem.W.fnOf "_law_cell_at" "_law_cell_at" (defArgs s_law_cell_at) (defBody s_law_cell_at) (defScope s_law_cell_at) .none kV1 dc1 pm1 an1 cd1 ct1), sl1⟩)
    (c1 : PySem.W.codeIn K cd1 "_law_cell_at" = true)
    (k1 : PySem.W.keepIn K (.ref f1) = true)
    (a2 : PySem.W.nsIn K mainGlobals "_law_bits" = some (some (.ref f2)))
    (l2 : K.lookup f2 = some ⟨oc2, od2, .func (PySem.W.fnOf "_law_bits" "_law_bits" (defArgs s_law_bits) (defBody s_law_bits) (defScope s_law_bits) .none kV2 dc2 pm2 an2 cd2 ct2), sl2⟩)
    (c2 : PySem.W.codeIn K cd2 "_law_bits" = true)
    (k2 : PySem.W.keepIn K (.ref f2) = true)
    (a3 : PySem.W.nsIn K mainGlobals "_law_turned" = some (some (.ref f3)))
    (l3 : K.lookup f3 = some ⟨oc3, od3, .func (PySem.W.fnOf "_law_turned" "_law_turned" (defArgs s_law_turned) (defBody s_law_turned) (defScope s_law_turned) .none kV3 dc3 pm3 an3 cd3 ct3), sl3⟩)
    (c3 : PySem.W.codeIn K cd3 "_law_turned" = true)
    (k3 : PySem.W.keepIn K (.ref f3) = true)
    (a4 : PySem.W.nsIn K mainGlobals "_law_gone_by" = some (some (.ref f4)))
    (l4 : K.lookup f4 = some ⟨oc4, od4, .func (PySem.W.fnOf "_law_gone_by" "_law_gone_by" (defArgs s_law_gone_by) (defBody s_law_gone_by) (defScope s_law_gone_by) .none kV4 dc4 pm4 an4 cd4 ct4), sl4⟩)
    (c4 : PySem.W.codeIn K cd4 "_law_gone_by" = true)
    (k4 : PySem.W.keepIn K (.ref f4) = true)
    (a5 : PySem.W.nsIn K mainGlobals "_law_heard" = some (some (.ref f5)))
    (l5 : K.lookup f5 = some ⟨oc5, od5, .func (PySem.W.fnOf "_law_heard" "_law_heard" (defArgs s_law_heard) (defBody s_law_heard) (defScope s_law_heard) .none kV5 dc5 pm5 an5 cd5 ct5), sl5⟩)
    (c5 : PySem.W.codeIn K cd5 "_law_heard" = true)
    (k5 : PySem.W.keepIn K (.ref f5) = true)
    (a6 : PySem.W.nsIn K mainGlobals "_law_marks_heard" = some (some (.ref f6)))
    (l6 : K.lookup f6 = some ⟨oc6, od6, .func (PySem.W.fnOf "_law_marks_heard" "_law_marks_heard" (defArgs s_law_marks_heard) (defBody s_law_marks_heard) (defScope s_law_marks_heard) .none kV6 dc6 pm6 an6 cd6 ct6), sl6⟩)
    (c6 : PySem.W.codeIn K cd6 "_law_marks_heard" = true)
    (k6 : PySem.W.keepIn K (.ref f6) = true)
    (a7 : PySem.W.nsIn K mainGlobals "_law_line" = some (some (.ref f7)))
    (l7 : K.lookup f7 = some ⟨oc7, od7, .func (PySem.W.fnOf "_law_line" "_law_line" (defArgs s_law_line) (defBody s_law_line) (defScope s_law_line) .none kV7 dc7 pm7 an7 cd7 ct7), sl7⟩)
    (c7 : PySem.W.codeIn K cd7 "_law_line" = true)
    (k7 : PySem.W.keepIn K (.ref f7) = true)
    (a8 : PySem.W.nsIn K mainGlobals "_law_made" = some (some (.ref f8)))
    (l8 : K.lookup f8 = some ⟨oc8, od8, .func (PySem.W.fnOf "_law_made" "_law_made" (defArgs s_law_made) (defBody s_law_made) (defScope s_law_made) .none kV8 dc8 pm8 an8 cd8 ct8), sl8⟩)
    (c8 : PySem.W.codeIn K cd8 "_law_made" = true)
    (k8 : PySem.W.keepIn K (.ref f8) = true)
    (a9 : PySem.W.nsIn K mainGlobals "_law_elder_heard" = some (some (.ref f9)))
    (l9 : K.lookup f9 = some ⟨oc9, od9, .func (PySem.W.fnOf "_law_elder_heard" "_law_elder_heard" (defArgs s_law_elder_heard) (defBody s_law_elder_heard) (defScope s_law_elder_heard) .none kV9 dc9 pm9 an9 cd9 ct9), sl9⟩)
    (c9 : PySem.W.codeIn K cd9 "_law_elder_heard" = true)
    (k9 : PySem.W.keepIn K (.ref f9) = true)
    (a10 : PySem.W.nsIn K mainGlobals "_law_pledges_heard" = some (some (.ref f10)))
    (l10 : K.lookup f10 = some ⟨oc10, od10, .func (PySem.W.fnOf "_law_pledges_heard" "_law_pledges_heard" (defArgs s_law_pledges_heard) (defBody s_law_pledges_heard) (defScope s_law_pledges_heard) .none kV10 dc10 pm10 an10 cd10 ct10), sl10⟩)
    (c10 : PySem.W.codeIn K cd10 "_law_pledges_heard" = true)
    (k10 : PySem.W.keepIn K (.ref f10) = true)
    (a11 : PySem.W.nsIn K mainGlobals "_law_alone" = some (some (.ref f11)))
    (l11 : K.lookup f11 = some ⟨oc11, od11, .func (PySem.W.fnOf "_law_alone" "_law_alone" (defArgs s_law_alone) (defBody s_law_alone) (defScope s_law_alone) .none kV11 dc11 pm11 an11 cd11 ct11), sl11⟩)
    (c11 : PySem.W.codeIn K cd11 "_law_alone" = true)
    (k11 : PySem.W.keepIn K (.ref f11) = true)
    (a12 : PySem.W.nsIn K mainGlobals "law" = some (some (.ref f12)))
    (l12 : K.lookup f12 = some ⟨oc12, od12, .func (PySem.W.fnOf "law" "law" (defArgs s_law) (defBody s_law) (defScope s_law) .none kV12 dc12 pm12 an12 cd12 ct12), sl12⟩)
    (c12 : PySem.W.codeIn K cd12 "law" = true)
    (k12 : PySem.W.keepIn K (.ref f12) = true)
    (a13 : PySem.W.findIn K (.ref C_Seat) "__init__" = some (some (.ref f13)))
    (i13 : PySem.W.isFn K (.ref f13) = true)
    (l13 : K.lookup f13 = some ⟨oc13, od13, .func (PySem.W.fnOf "__init__" "Seat.__init__" (defArgs s_Seat__init) (defBody s_Seat__init) (defScope s_Seat__init) .none kV13 dc13 pm13 an13 cd13 ct13), sl13⟩)
    (c13 : PySem.W.codeIn K cd13 "Seat.__init__" = true)
    (k13 : PySem.W.keepIn K (.ref f13) = true)
    (a14 : PySem.W.findIn K (.ref C_Key) "__init__" = some (some (.ref f14)))
    (i14 : PySem.W.isFn K (.ref f14) = true)
    (l14 : K.lookup f14 = some ⟨oc14, od14, .func (PySem.W.fnOf "__init__" "Key.__init__" (defArgs s_Key__init) (defBody s_Key__init) (defScope s_Key__init) .none kV14 dc14 pm14 an14 cd14 ct14), sl14⟩)
    (c14 : PySem.W.codeIn K cd14 "Key.__init__" = true)
    (k14 : PySem.W.keepIn K (.ref f14) = true)
    (a15 : PySem.W.findIn K (.ref C_Key) "told" = some (some (.ref f15)))
    (i15 : PySem.W.isFn K (.ref f15) = true)
    (l15 : K.lookup f15 = some ⟨oc15, od15, .func (PySem.W.fnOf "told" "Key.told" (defArgs s_Key_told) (defBody s_Key_told) (defScope s_Key_told) .none kV15 dc15 pm15 an15 cd15 ct15), sl15⟩)
    (c15 : PySem.W.codeIn K cd15 "Key.told" = true)
    (k15 : PySem.W.keepIn K (.ref f15) = true)
    (a16 : PySem.W.findIn K (.ref C_Key) "line_up" = some (some (.ref f16)))
    (i16 : PySem.W.isFn K (.ref f16) = true)
    (l16 : K.lookup f16 = some ⟨oc16, od16, .func (PySem.W.fnOf "line_up" "Key.line_up" (defArgs s_Key_line_up) (defBody s_Key_line_up) (defScope s_Key_line_up) .none kV16 dc16 pm16 an16 cd16 ct16), sl16⟩)
    (c16 : PySem.W.codeIn K cd16 "Key.line_up" = true)
    (k16 : PySem.W.keepIn K (.ref f16) = true)
    (a17 : PySem.W.findIn K (.ref C_Key) "take_first" = some (some (.ref f17)))
    (i17 : PySem.W.isFn K (.ref f17) = true)
    (l17 : K.lookup f17 = some ⟨oc17, od17, .func (PySem.W.fnOf "take_first" "Key.take_first" (defArgs s_Key_take_first) (defBody s_Key_take_first) (defScope s_Key_take_first) .none kV17 dc17 pm17 an17 cd17 ct17), sl17⟩)
    (c17 : PySem.W.codeIn K cd17 "Key.take_first" = true)
    (k17 : PySem.W.keepIn K (.ref f17) = true)
    (a18 : PySem.W.findIn K (.ref C_Key) "_is_due" = some (some (.ref f18)))
    (i18 : PySem.W.isFn K (.ref f18) = true)
    (l18 : K.lookup f18 = some ⟨oc18, od18, .func (PySem.W.fnOf "_is_due" "Key._is_due" (defArgs s_Key_is_due) (defBody s_Key_is_due) (defScope s_Key_is_due) .none kV18 dc18 pm18 an18 cd18 ct18), sl18⟩)
    (c18 : PySem.W.codeIn K cd18 "Key._is_due" = true)
    (k18 : PySem.W.keepIn K (.ref f18) = true)
    (a19 : PySem.W.findIn K (.ref C_Caller) "ask" = some (some (.ref f19)))
    (i19 : PySem.W.isFn K (.ref f19) = true)
    (l19 : K.lookup f19 = some ⟨oc19, od19, .func (PySem.W.fnOf "ask" "Caller.ask" (defArgs s_Caller_ask) (defBody s_Caller_ask) (defScope s_Caller_ask) .none kV19 dc19 pm19 an19 cd19 ct19), sl19⟩)
    (c19 : PySem.W.codeIn K cd19 "Caller.ask" = true)
    (k19 : PySem.W.keepIn K (.ref f19) = true)
    (a20 : PySem.W.findIn K (.ref C_Caller) "hear" = some (some (.ref f20)))
    (i20 : PySem.W.isFn K (.ref f20) = true)
    (l20 : K.lookup f20 = some ⟨oc20, od20, .func (PySem.W.fnOf "hear" "Caller.hear" (defArgs s_Caller_hear) (defBody s_Caller_hear) (defScope s_Caller_hear) .none kV20 dc20 pm20 an20 cd20 ct20), sl20⟩)
    (c20 : PySem.W.codeIn K cd20 "Caller.hear" = true)
    (k20 : PySem.W.keepIn K (.ref f20) = true)
    (a21 : PySem.W.findIn K (.ref C_Caller) "gone" = some (some (.ref f21)))
    (i21 : PySem.W.isFn K (.ref f21) = true)
    (l21 : K.lookup f21 = some ⟨oc21, od21, .func (PySem.W.fnOf "gone" "Caller.gone" (defArgs s_Caller_gone) (defBody s_Caller_gone) (defScope s_Caller_gone) .none kV21 dc21 pm21 an21 cd21 ct21), sl21⟩)
    (c21 : PySem.W.codeIn K cd21 "Caller.gone" = true)
    (k21 : PySem.W.keepIn K (.ref f21) = true)
    (a22 : PySem.W.findIn K (.ref C_Caller) "bears" = some (some (.ref f22)))
    (i22 : PySem.W.isFn K (.ref f22) = true)
    (l22 : K.lookup f22 = some ⟨oc22, od22, .func (PySem.W.fnOf "bears" "Caller.bears" (defArgs s_Caller_bears) (defBody s_Caller_bears) (defScope s_Caller_bears) .none kV22 dc22 pm22 an22 cd22 ct22), sl22⟩)
    (c22 : PySem.W.codeIn K cd22 "Caller.bears" = true)
    (k22 : PySem.W.keepIn K (.ref f22) = true)
    (a23 : PySem.W.findIn K (.ref C_Caller) "roster" = some (some (.ref f23)))
    (i23 : PySem.W.isFn K (.ref f23) = true)
    (l23 : K.lookup f23 = some ⟨oc23, od23, .func (PySem.W.fnOf "roster" "Caller.roster" (defArgs s_Caller_roster) (defBody s_Caller_roster) (defScope s_Caller_roster) .none kV23 dc23 pm23 an23 cd23 ct23), sl23⟩)
    (c23 : PySem.W.codeIn K cd23 "Caller.roster" = true)
    (k23 : PySem.W.keepIn K (.ref f23) = true)
    (a24 : PySem.W.findIn K (.ref C_Caller) "numbers" = some (some (.ref f24)))
    (i24 : PySem.W.isFn K (.ref f24) = true)
    (l24 : K.lookup f24 = some ⟨oc24, od24, .func (PySem.W.fnOf "numbers" "Caller.numbers" (defArgs s_Caller_numbers) (defBody s_Caller_numbers) (defScope s_Caller_numbers) .none kV24 dc24 pm24 an24 cd24 ct24), sl24⟩)
    (c24 : PySem.W.codeIn K cd24 "Caller.numbers" = true)
    (k24 : PySem.W.keepIn K (.ref f24) = true)
    (a25 : PySem.W.findIn K (.ref C_Caller) "awaits" = some (some (.ref f25)))
    (i25 : PySem.W.isFn K (.ref f25) = true)
    (l25 : K.lookup f25 = some ⟨oc25, od25, .func (PySem.W.fnOf "awaits" "Caller.awaits" (defArgs s_Caller_awaits) (defBody s_Caller_awaits) (defScope s_Caller_awaits) .none kV25 dc25 pm25 an25 cd25 ct25), sl25⟩)
    (c25 : PySem.W.codeIn K cd25 "Caller.awaits" = true)
    (k25 : PySem.W.keepIn K (.ref f25) = true)
    (a26 : PySem.W.findIn K (.ref C_Caller) "_to_others" = some (some (.ref f26)))
    (i26 : PySem.W.isFn K (.ref f26) = true)
    (l26 : K.lookup f26 = some ⟨oc26, od26, .func (PySem.W.fnOf "_to_others" "Caller._to_others" (defArgs s_Caller_to_others) (defBody s_Caller_to_others) (defScope s_Caller_to_others) .none kV26 dc26 pm26 an26 cd26 ct26), sl26⟩)
    (c26 : PySem.W.codeIn K cd26 "Caller._to_others" = true)
    (k26 : PySem.W.keepIn K (.ref f26) = true)
    (a27 : PySem.W.findIn K (.ref C_Caller) "_learn" = some (some (.ref f27)))
    (i27 : PySem.W.isFn K (.ref f27) = true)
    (l27 : K.lookup f27 = some ⟨oc27, od27, .func (PySem.W.fnOf "_learn" "Caller._learn" (defArgs s_Caller_learn) (defBody s_Caller_learn) (defScope s_Caller_learn) .none kV27 dc27 pm27 an27 cd27 ct27), sl27⟩)
    (c27 : PySem.W.codeIn K cd27 "Caller._learn" = true)
    (k27 : PySem.W.keepIn K (.ref f27) = true)
    (a28 : PySem.W.findIn K (.ref C_Caller) "_hear_ask" = some (some (.ref f28)))
    (i28 : PySem.W.isFn K (.ref f28) = true)
    (l28 : K.lookup f28 = some ⟨oc28, od28, .func (PySem.W.fnOf "_hear_ask" "Caller._hear_ask" (defArgs s_Caller_hear_ask) (defBody s_Caller_hear_ask) (defScope s_Caller_hear_ask) .none kV28 dc28 pm28 an28 cd28 ct28), sl28⟩)
    (c28 : PySem.W.codeIn K cd28 "Caller._hear_ask" = true)
    (k28 : PySem.W.keepIn K (.ref f28) = true)
    (a29 : PySem.W.findIn K (.ref C_Caller) "_hear_pledge" = some (some (.ref f29)))
    (i29 : PySem.W.isFn K (.ref f29) = true)
    (l29 : K.lookup f29 = some ⟨oc29, od29, .func (PySem.W.fnOf "_hear_pledge" "Caller._hear_pledge" (defArgs s_Caller_hear_pledge) (defBody s_Caller_hear_pledge) (defScope s_Caller_hear_pledge) .none kV29 dc29 pm29 an29 cd29 ct29), sl29⟩)
    (c29 : PySem.W.codeIn K cd29 "Caller._hear_pledge" = true)
    (k29 : PySem.W.keepIn K (.ref f29) = true)
    (a30 : PySem.W.findIn K (.ref C_Caller) "_begin" = some (some (.ref f30)))
    (i30 : PySem.W.isFn K (.ref f30) = true)
    (l30 : K.lookup f30 = some ⟨oc30, od30, .func (PySem.W.fnOf "_begin" "Caller._begin" (defArgs s_Caller_begin) (defBody s_Caller_begin) (defScope s_Caller_begin) .none kV30 dc30 pm30 an30 cd30 ct30), sl30⟩)
    (c30 : PySem.W.codeIn K cd30 "Caller._begin" = true)
    (k30 : PySem.W.keepIn K (.ref f30) = true)
    (a31 : PySem.W.findIn K (.ref C_Caller) "_pledge" = some (some (.ref f31)))
    (i31 : PySem.W.isFn K (.ref f31) = true)
    (l31 : K.lookup f31 = some ⟨oc31, od31, .func (PySem.W.fnOf "_pledge" "Caller._pledge" (defArgs s_Caller_pledge) (defBody s_Caller_pledge) (defScope s_Caller_pledge) .none kV31 dc31 pm31 an31 cd31 ct31), sl31⟩)
    (c31 : PySem.W.codeIn K cd31 "Caller._pledge" = true)
    (k31 : PySem.W.keepIn K (.ref f31) = true)
    (a32 : PySem.W.findIn K (.ref C_Caller) "_make_key" = some (some (.ref f32)))
    (i32 : PySem.W.isFn K (.ref f32) = true)
    (l32 : K.lookup f32 = some ⟨oc32, od32, .func (PySem.W.fnOf "_make_key" "Caller._make_key" (defArgs s_Caller_make_key) (defBody s_Caller_make_key) (defScope s_Caller_make_key) .none kV32 dc32 pm32 an32 cd32 ct32), sl32⟩)
    (c32 : PySem.W.codeIn K cd32 "Caller._make_key" = true)
    (k32 : PySem.W.keepIn K (.ref f32) = true)
    (a33 : PySem.W.findIn K (.ref C_Caller) "_hand_on" = some (some (.ref f33)))
    (i33 : PySem.W.isFn K (.ref f33) = true)
    (l33 : K.lookup f33 = some ⟨oc33, od33, .func (PySem.W.fnOf "_hand_on" "Caller._hand_on" (defArgs s_Caller_hand_on) (defBody s_Caller_hand_on) (defScope s_Caller_hand_on) .none kV33 dc33 pm33 an33 cd33 ct33), sl33⟩)
    (c33 : PySem.W.codeIn K cd33 "Caller._hand_on" = true)
    (k33 : PySem.W.keepIn K (.ref f33) = true)
    (n_Caller_me : PySem.W.findIn K (.ref C_Caller) "me" = some none)
    (n_Caller_state : PySem.W.findIn K (.ref C_Caller) "state" = some none)
    (n_Caller_sits : PySem.W.findIn K (.ref C_Caller) "sits" = some none)
    (n_Caller_round : PySem.W.findIn K (.ref C_Caller) "round" = some none)
    (n_Caller__roster : PySem.W.findIn K (.ref C_Caller) "_roster" = some none)
    (n_Caller__numbers : PySem.W.findIn K (.ref C_Caller) "_numbers" = some none)
    (n_Caller__key : PySem.W.findIn K (.ref C_Caller) "_key" = some none)
    (n_Caller__begun : PySem.W.findIn K (.ref C_Caller) "_begun" = some none)
    (n_Caller__pledges : PySem.W.findIn K (.ref C_Caller) "_pledges" = some none)
    (n_Key_round : PySem.W.findIn K (.ref C_Key) "round" = some none)
    (n_Key__served : PySem.W.findIn K (.ref C_Key) "_served" = some none)
    (n_Key__line : PySem.W.findIn K (.ref C_Key) "_line" = some none)
    (i1 : PySem.W.findIn K (.ref C_Caller) "__init__" = some (some (.ref fI)))
    (i2 : PySem.W.isFn K (.ref fI) = true)
    (i3 : K.lookup fI = some ⟨ocI, odI, .func (PySem.W.ksFn "__init__" "Caller.__init__" (defArgs s_Caller__init) (defBody s_Caller__init) (defScope s_Caller__init) .none (.ref Dk) dcI pmI anI (.ref cda) ctI cc), oslI⟩)
    (ii4 : PySem.W.codeIn K (.ref cda) "Caller.__init__" = true)
    (ii5 : K.lookup cc = some ⟨clI, cldI, .cell (some (.ref C_Caller)), csl⟩)
    (ii6 : K.lookup cda = some ⟨ccl, cdd, .fields vs, ccs⟩)
    (w7 : vs[2]? = some (.str file tf))
    (w8 : ((P.main.file : Str) == file) = true)
    (w9 : PySem.W.clsIn K C_Caller = some cdD)
    (ii10 : PySem.W.nsIn K mainGlobals "super" = some none)
    (w11 : (P.main.scope.names.lookup ("super" : Str)).isSome = false)
    (ii12 : PySem.W.nsIn K cStatics "thirdparty.any" = some none)
    (w13 : PySem.W.mroIn K C_Caller (.ref C_Caller) = some true)
    (w14 : PySem.W.ks_superIn K C_Caller C_Caller "__init__" = some (some (.ref f13)))
    (ii15 : PySem.W.typeIn K (.ref f13) = some (.type "function"))
    (w16 : PySem.W.fnIn K f13 = true)
    (ii17 : PySem.W.nsIn K Dk "first" = some (some (.int 0 td)))
    (ik1 : PySem.W.findIn K (.ref C_Key) "__init__" = some (some (.ref f14)))
    (ik2 : PySem.W.isFn K (.ref f14) = true)
    (b_len : PySem.W.nsIn K mainGlobals "len" = some none)
    (b_range : PySem.W.nsIn K mainGlobals "range" = some none)
    (b_tuple : PySem.W.nsIn K mainGlobals "tuple" = some none)
    (b_list : PySem.W.nsIn K mainGlobals "list" = some none)
    (b_isinstance : PySem.W.nsIn K mainGlobals "isinstance" = some none)
    (b_bool : PySem.W.nsIn K mainGlobals "bool" = some none)
    (b_sorted : PySem.W.nsIn K mainGlobals "sorted" = some none)
    (b_int : PySem.W.nsIn K mainGlobals "int" = some none)
    (b_max : PySem.W.nsIn K mainGlobals "max" = some none)
    (b_any : PySem.W.nsIn K mainGlobals "any" = some none) :
    ∃ fd : FuncData, (∀ (s : Shared) (v : Value), BindsTo s fd ⟨[v], []⟩ [("script", v)]) ∧
      ∀ base : Heap, K.In base → base.Ns mainGlobals mg → FnG P w K mg base CX0 10 fa fd ["script"] (spLaw K) := by
  have F_law_cell_at : Fn K mg "_law_cell_at" s_law_cell_at := fn_top X G a1 l1 c1 k1
  have F_law_bits : Fn K mg "_law_bits" s_law_bits := fn_top X G a2 l2 c2 k2
  have F_law_turned : Fn K mg "_law_turned" s_law_turned := fn_top X G a3 l3 c3 k3
  have F_law_gone_by : Fn K mg "_law_gone_by" s_law_gone_by := fn_top X G a4 l4 c4 k4
  have F_law_heard : Fn K mg "_law_heard" s_law_heard := fn_top X G a5 l5 c5 k5
  have F_law_marks_heard : Fn K mg "_law_marks_heard" s_law_marks_heard := fn_top X G a6 l6 c6 k6
  have F_law_line : Fn K mg "_law_line" s_law_line := fn_top X G a7 l7 c7 k7
  have F_law_made : Fn K mg "_law_made" s_law_made := fn_top X G a8 l8 c8 k8
  have F_law_elder_heard : Fn K mg "_law_elder_heard" s_law_elder_heard := fn_top X G a9 l9 c9 k9
  have F_law_pledges_heard : Fn K mg "_law_pledges_heard" s_law_pledges_heard := fn_top X G a10 l10 c10 k10
  have F_law_alone : Fn K mg "_law_alone" s_law_alone := fn_top X G a11 l11 c11 k11
  have F_law : Fn K mg "law" s_law := fn_top X G a12 l12 c12 k12
  have M_Seat__init : Fm K C_Seat "__init__" "Seat.__init__" s_Seat__init := fm_top a13 i13 l13 c13 k13
  have M_Key__init : Fm K C_Key "__init__" "Key.__init__" s_Key__init := fm_top a14 i14 l14 c14 k14
  have M_Key_told : Fm K C_Key "told" "Key.told" s_Key_told := fm_top a15 i15 l15 c15 k15
  have M_Key_line_up : Fm K C_Key "line_up" "Key.line_up" s_Key_line_up := fm_top a16 i16 l16 c16 k16
  have M_Key_take_first : Fm K C_Key "take_first" "Key.take_first" s_Key_take_first := fm_top a17 i17 l17 c17 k17
  have M_Key_is_due : Fm K C_Key "_is_due" "Key._is_due" s_Key_is_due := fm_top a18 i18 l18 c18 k18
  have M_Caller_ask : Fm K C_Caller "ask" "Caller.ask" s_Caller_ask := fm_top a19 i19 l19 c19 k19
  have M_Caller_hear : Fm K C_Caller "hear" "Caller.hear" s_Caller_hear := fm_top a20 i20 l20 c20 k20
  have M_Caller_gone : Fm K C_Caller "gone" "Caller.gone" s_Caller_gone := fm_top a21 i21 l21 c21 k21
  have M_Caller_bears : Fm K C_Caller "bears" "Caller.bears" s_Caller_bears := fm_top a22 i22 l22 c22 k22
  have M_Caller_roster : Fm K C_Caller "roster" "Caller.roster" s_Caller_roster := fm_top a23 i23 l23 c23 k23
  have M_Caller_numbers : Fm K C_Caller "numbers" "Caller.numbers" s_Caller_numbers := fm_top a24 i24 l24 c24 k24
  have M_Caller_awaits : Fm K C_Caller "awaits" "Caller.awaits" s_Caller_awaits := fm_top a25 i25 l25 c25 k25
  have M_Caller_to_others : Fm K C_Caller "_to_others" "Caller._to_others" s_Caller_to_others := fm_top a26 i26 l26 c26 k26
  have M_Caller_learn : Fm K C_Caller "_learn" "Caller._learn" s_Caller_learn := fm_top a27 i27 l27 c27 k27
  have M_Caller_hear_ask : Fm K C_Caller "_hear_ask" "Caller._hear_ask" s_Caller_hear_ask := fm_top a28 i28 l28 c28 k28
  have M_Caller_hear_pledge : Fm K C_Caller "_hear_pledge" "Caller._hear_pledge" s_Caller_hear_pledge := fm_top a29 i29 l29 c29 k29
  have M_Caller_begin : Fm K C_Caller "_begin" "Caller._begin" s_Caller_begin := fm_top a30 i30 l30 c30 k30
  have M_Caller_pledge : Fm K C_Caller "_pledge" "Caller._pledge" s_Caller_pledge := fm_top a31 i31 l31 c31 k31
  have M_Caller_make_key : Fm K C_Caller "_make_key" "Caller._make_key" s_Caller_make_key := fm_top a32 i32 l32 c32 k32
  have M_Caller_hand_on : Fm K C_Caller "_hand_on" "Caller._hand_on" s_Caller_hand_on := fm_top a33 i33 l33 c33 k33
  have B_len := PySem.W.mg_none_of X G b_len
  have B_range := PySem.W.mg_none_of X G b_range
  have B_tuple := PySem.W.mg_none_of X G b_tuple
  have B_list := PySem.W.mg_none_of X G b_list
  have B_isinstance := PySem.W.mg_none_of X G b_isinstance
  have B_bool := PySem.W.mg_none_of X G b_bool
  have B_sorted := PySem.W.mg_none_of X G b_sorted
  have B_int := PySem.W.mg_none_of X G b_int
  have B_max := PySem.W.mg_none_of X G b_max
  have B_any := PySem.W.mg_none_of X G b_any
  have T_Caller : Cls K C_Caller := ⟨pg_Caller, hd_Caller, po_Caller, sa_Caller⟩
  have G_Caller := PySem.W.mg_of X G aC_Caller
  have T_Seat : Cls K C_Seat := ⟨pg_Seat, hd_Seat, po_Seat, sa_Seat⟩
  have G_Seat := PySem.W.mg_of X G aC_Seat
  have T_Key : Cls K C_Key := ⟨pg_Key, hd_Key, po_Key, sa_Key⟩
  have G_Key := PySem.W.mg_of X G aC_Key
  have S : CalT K C_Caller := ⟨T_Caller, n_Caller_me, n_Caller_state, n_Caller_sits, n_Caller_round, n_Caller__roster, n_Caller__numbers, n_Caller__key, n_Caller__begun, n_Caller__pledges⟩
  have KT : KeyT K C_Key := ⟨T_Key, n_Key_round, n_Key__served, n_Key__line⟩
  have T : BlC71 mg := ⟨B_len, B_range, B_list, B_tuple, B_sorted, B_isinstance, B_int, B_bool⟩
  exact law_end F_law hfa (fun _ _ _ _ _ _ s v => .of_eq rfl) fun base _ _ => whole T B_max B_any S KT
    (made_of T S G_Caller mk_Caller kc_Caller (fun_mk l13 c13 k13) i1 i2 i3 ii4 ii5 ii6 w7 w8 w9 ii10 w11 ii12 w13 w14 ii15 w16 ii17 KT ⟨mk_Key, ik1, ik2, kc_Key⟩ (fun_mk l14 c14 k14) G_Key)
    ⟨mk_Key, ik1, ik2, kc_Key⟩ (fun_mk l14 c14 k14) G_Key
    F_law_cell_at F_law_bits F_law_turned F_law_gone_by F_law_heard F_law_marks_heard F_law_line F_law_made F_law_elder_heard F_law_pledges_heard F_law_alone F_law
    M_Key_told M_Key_line_up M_Key_take_first M_Key_is_due M_Caller_ask M_Caller_hear M_Caller_gone M_Caller_bears M_Caller_roster M_Caller_numbers M_Caller_awaits M_Caller_to_others M_Caller_learn M_Caller_hear_ask M_Caller_hear_pledge M_Caller_begin M_Caller_pledge M_Caller_make_key M_Caller_hand_on
end G0
open PySem PySem.W PyProof.Rows in
set_option maxRecDepth 100000 in
set_option maxHeartbeats 0 in
theorem PySem.Challenge.cw_soleseat_k97_a_key_made_anew_holds : PySem.Challenge.rw_soleseat_k97_a_key_made_anew.Holds := by
  w_on; o_law; k_head; (case hw => w_witness2)
  k_fill
  refine G0.walk_ofGB (l := PySem.Challenge.rw_soleseat_k97_a_key_made_anew) (n := 63) (k := 10) (x := "script") (sp := G0.spLaw) rfl (by decide) rfl ⟨rfl, by decide, by decide⟩ (fun w h Y => PySem.W.kIn_of Y) ?F (fun K H a ns hl bits _ hS => ⟨a, ns, rfl, hS, bits, fun _ => rfl⟩)
  case F =>
    intro w mg fa h KX G hmg
    refine' G0.all_mk KX G hmg ?aC_Caller ?pg_Caller ?hd_Caller ?po_Caller ?sa_Caller ?mk_Caller ?kc_Caller ?aC_Seat ?pg_Seat ?hd_Seat ?po_Seat ?sa_Seat ?mk_Seat ?kc_Seat ?aC_Key ?pg_Key ?hd_Key ?po_Key ?sa_Key ?mk_Key ?kc_Key ?a1 ?l1 ?c1 ?k1 ?a2 ?l2 ?c2 ?k2 ?a3 ?l3 ?c3 ?k3 ?a4 ?l4 ?c4 ?k4 ?a5 ?l5 ?c5 ?k5 ?a6 ?l6 ?c6 ?k6 ?a7 ?l7 ?c7 ?k7 ?a8 ?l8 ?c8 ?k8 ?a9 ?l9 ?c9 ?k9 ?a10 ?l10 ?c10 ?k10 ?a11 ?l11 ?c11 ?k11 ?a12 ?l12 ?c12 ?k12 ?a13 ?i13 ?l13 ?c13 ?k13 ?a14 ?i14 ?l14 ?c14 ?k14 ?a15 ?i15 ?l15 ?c15 ?k15 ?a16 ?i16 ?l16 ?c16 ?k16 ?a17 ?i17 ?l17 ?c17 ?k17 ?a18 ?i18 ?l18 ?c18 ?k18 ?a19 ?i19 ?l19 ?c19 ?k19 ?a20 ?i20 ?l20 ?c20 ?k20 ?a21 ?i21 ?l21 ?c21 ?k21 ?a22 ?i22 ?l22 ?c22 ?k22 ?a23 ?i23 ?l23 ?c23 ?k23 ?a24 ?i24 ?l24 ?c24 ?k24 ?a25 ?i25 ?l25 ?c25 ?k25 ?a26 ?i26 ?l26 ?c26 ?k26 ?a27 ?i27 ?l27 ?c27 ?k27 ?a28 ?i28 ?l28 ?c28 ?k28 ?a29 ?i29 ?l29 ?c29 ?k29 ?a30 ?i30 ?l30 ?c30 ?k30 ?a31 ?i31 ?l31 ?c31 ?k31 ?a32 ?i32 ?l32 ?c32 ?k32 ?a33 ?i33 ?l33 ?c33 ?k33 ?n_Caller_me ?n_Caller_state ?n_Caller_sits ?n_Caller_round ?n_Caller__roster ?n_Caller__numbers ?n_Caller__key ?n_Caller__begun ?n_Caller__pledges ?n_Key_round ?n_Key__served ?n_Key__line ?i1 ?i2 ?i3 ?ii4 ?ii5 ?ii6 ?w7 ?w8 ?w9 ?ii10 ?w11 ?ii12 ?w13 ?w14 ?ii15 ?w16 ?ii17 ?ik1 ?ik2 ?b_len ?b_range ?b_tuple ?b_list ?b_isinstance ?b_bool ?b_sorted ?b_int ?b_max ?b_any
    (case aC_Caller => k_is)
    (case pg_Caller => k_is)
    (case hd_Caller => k_is)
    (case po_Caller => k_is)
    (case sa_Caller => k_is)
    (case mk_Caller => k_is)
    (case kc_Caller => k_is)
    (case aC_Seat => k_is)
    (case pg_Seat => k_is)
    (case hd_Seat => k_is)
    (case po_Seat => k_is)
    (case sa_Seat => k_is)
    (case mk_Seat => k_is)
    (case kc_Seat => k_is)
    (case aC_Key => k_is)
    (case pg_Key => k_is)
    (case hd_Key => k_is)
    (case po_Key => k_is)
    (case sa_Key => k_is)
    (case mk_Key => k_is)
    (case kc_Key => k_is)
    (case a1 => k_is)
    (case l1 => k_is)
    (case c1 => k_is)
    (case k1 => k_is)
    (case a2 => k_is)
    (case l2 => k_is)
    (case c2 => k_is)
    (case k2 => k_is)
    (case a3 => k_is)
    (case l3 => k_is)
    (case c3 => k_is)
    (case k3 => k_is)
    (case a4 => k_is)
    (case l4 => k_is)
    (case c4 => k_is)
    (case k4 => k_is)
    (case a5 => k_is)
    (case l5 => k_is)
    (case c5 => k_is)
    (case k5 => k_is)
    (case a6 => k_is)
    (case l6 => k_is)
    (case c6 => k_is)
    (case k6 => k_is)
    (case a7 => k_is)
    (case l7 => k_is)
    (case c7 => k_is)
    (case k7 => k_is)
    (case a8 => k_is)
    (case l8 => k_is)
    (case c8 => k_is)
    (case k8 => k_is)
    (case a9 => k_is)
    (case l9 => k_is)
    (case c9 => k_is)
    (case k9 => k_is)
    (case a10 => k_is)
    (case l10 => k_is)
    (case c10 => k_is)
    (case k10 => k_is)
    (case a11 => k_is)
    (case l11 => k_is)
    (case c11 => k_is)
    (case k11 => k_is)
    (case a12 => k_is)
    (case l12 => k_is)
    (case c12 => k_is)
    (case k12 => k_is)
    (case a13 => k_is)
    (case i13 => k_is)
    (case l13 => k_is)
    (case c13 => k_is)
    (case k13 => k_is)
    (case a14 => k_is)
    (case i14 => k_is)
    (case l14 => k_is)
    (case c14 => k_is)
    (case k14 => k_is)
    (case a15 => k_is)
    (case i15 => k_is)
    (case l15 => k_is)
    (case c15 => k_is)
    (case k15 => k_is)
    (case a16 => k_is)
    (case i16 => k_is)
    (case l16 => k_is)
    (case c16 => k_is)
    (case k16 => k_is)
    (case a17 => k_is)
    (case i17 => k_is)
    (case l17 => k_is)
    (case c17 => k_is)
    (case k17 => k_is)
    (case a18 => k_is)
    (case i18 => k_is)
    (case l18 => k_is)
    (case c18 => k_is)
    (case k18 => k_is)
    (case a19 => k_is)
    (case i19 => k_is)
    (case l19 => k_is)
    (case c19 => k_is)
    (case k19 => k_is)
    (case a20 => k_is)
    (case i20 => k_is)
    (case l20 => k_is)
    (case c20 => k_is)
    (case k20 => k_is)
    (case a21 => k_is)
    (case i21 => k_is)
    (case l21 => k_is)
    (case c21 => k_is)
    (case k21 => k_is)
    (case a22 => k_is)
    (case i22 => k_is)
    (case l22 => k_is)
    (case c22 => k_is)
    (case k22 => k_is)
    (case a23 => k_is)
    (case i23 => k_is)
    (case l23 => k_is)
    (case c23 => k_is)
    (case k23 => k_is)
    (case a24 => k_is)
    (case i24 => k_is)
    (case l24 => k_is)
    (case c24 => k_is)
    (case k24 => k_is)
    (case a25 => k_is)
    (case i25 => k_is)
    (case l25 => k_is)
    (case c25 => k_is)
    (case k25 => k_is)
    (case a26 => k_is)
    (case i26 => k_is)
    (case l26 => k_is)
    (case c26 => k_is)
    (case k26 => k_is)
    (case a27 => k_is)
    (case i27 => k_is)
    (case l27 => k_is)
    (case c27 => k_is)
    (case k27 => k_is)
    (case a28 => k_is)
    (case i28 => k_is)
    (case l28 => k_is)
    (case c28 => k_is)
    (case k28 => k_is)
    (case a29 => k_is)
    (case i29 => k_is)
    (case l29 => k_is)
    (case c29 => k_is)
    (case k29 => k_is)
    (case a30 => k_is)
    (case i30 => k_is)
    (case l30 => k_is)
    (case c30 => k_is)
    (case k30 => k_is)
    (case a31 => k_is)
    (case i31 => k_is)
    (case l31 => k_is)
    (case c31 => k_is)
    (case k31 => k_is)
    (case a32 => k_is)
    (case i32 => k_is)
    (case l32 => k_is)
    (case c32 => k_is)
    (case k32 => k_is)
    (case a33 => k_is)
    (case i33 => k_is)
    (case l33 => k_is)
    (case c33 => k_is)
    (case k33 => k_is)
    (case n_Caller_me => k_is)
    (case n_Caller_state => k_is)
    (case n_Caller_sits => k_is)
    (case n_Caller_round => k_is)
    (case n_Caller__roster => k_is)
    (case n_Caller__numbers => k_is)
    (case n_Caller__key => k_is)
    (case n_Caller__begun => k_is)
    (case n_Caller__pledges => k_is)
    (case n_Key_round => k_is)
    (case n_Key__served => k_is)
    (case n_Key__line => k_is)
    (case i1 => k_is)
    (case i2 => k_is)
    (case i3 => k_is)
    (case ii4 => k_is)
    (case ii5 => k_is)
    (case ii6 => k_is)
    (case w7 => first | k_is | exact rfl | decide +kernel)
    (case w8 => first | k_is | exact rfl | decide +kernel)
    (case w9 => first | k_is | exact rfl | decide +kernel)
    (case ii10 => k_is)
    (case w11 => first | k_is | exact rfl | decide +kernel)
    (case ii12 => k_is)
    (case w13 => first | k_is | exact rfl | decide +kernel)
    (case w14 => first | k_is | exact rfl | decide +kernel)
    (case ii15 => k_is)
    (case w16 => first | k_is | exact rfl | decide +kernel)
    (case ii17 => k_is)
    (case ik1 => k_is)
    (case ik2 => k_is)
    (case b_len => k_is)
    (case b_range => k_is)
    (case b_tuple => k_is)
    (case b_list => k_is)
    (case b_isinstance => k_is)
    (case b_bool => k_is)
    (case b_sorted => k_is)
    (case b_int => k_is)
    (case b_max => k_is)
    (case b_any => k_is)
#print axioms PySem.Challenge.cw_soleseat_k97_a_key_made_anew_holds
namespace G0

end G0
