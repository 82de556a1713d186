import PyProof.Rows.All
import Wide.All
import OpenK.AllK
import Wide.FinOn
import HandS.ForMost
import HandS.Wide
import HandS.Conv
import HandS.TupAny
import HandS.Deep
import HandS.Steps
import HandS.NoneIn
import HandS.IsInst
import HandS.More
import HandS.Defaults
import HandS.TupSets
import HandS.SetKeys
import HandS.SetFor
import HandS.Strs
import HandS.Style
import HandS.More
import HandS.Wide
import PySem.Challenge.RW_soleseat_k57_falls_bar
set_option Elab.async false
set_option maxRecDepth 100000
set_option maxHeartbeats 1000000
set_option linter.all false
/-! Calls where nothing is under repr around: the layer's defs, with one premise more (no guard around). -/
namespace G0
open PySem PySem.Spec PyProof.Rows L2
structure FnG (P : Program) (w : World) (K : PySem.W.Frag) (mg : Str → Option Value) (base : Heap) (CX : CXT)
    (k : Nat) (f : Addr) (fd : FuncData) (ps : List Str) (sp : Sp) : Prop where
  args : ∀ zs G R W, sp zs G R W → zs.length = ps.length
  runs : ∀ (B : Around) (around : List Env) (t : Shared) (G : Hp) (given : Args) (bound : List Value) (zs : List V) (R : VK) (W : XK),
    B.guards = some [] → Room k B → Env0 P w K mg base B around t G →
    BindsTo t fd given (ps.zip bound) → Vals zs bound → sp zs G R W →
    codeAny (model P w) B (.call (.ref f) given) (CR CX around P w G t R W) t
theorem FnG.of {P : Program} {w : World} {K : PySem.W.Frag} {mg : Str → Option Value} {base : Heap} {CX : CXT}
    {k : Nat} {f : Addr} {fd : FuncData} {ps : List Str} {sp : Sp} (F : FnOk P w K mg base CX k f fd ps sp) :
    FnG P w K mg base CX k f fd ps sp :=
  ⟨F.len, fun B around t G given bound zs R W _ hr => F.run B around t G given bound zs R W hr⟩
theorem FnG.mono {P : Program} {w : World} {K : PySem.W.Frag} {mg : Str → Option Value} {base : Heap} {CX : CXT}
    {j k : Nat} {f : Addr} {fd : FuncData} {ps : List Str} {sp : Sp} (F : FnG P w K mg base CX j f fd ps sp) (h : j ≤ k) :
    FnG P w K mg base CX k f fd ps sp :=
  ⟨F.args, fun B around t G given bound zs R W hg hr => F.runs B around t G given bound zs R W hg (hr.mono h)⟩
section
variable {X : Cx} {CX : CXT} {k : Nat} {f : Addr} {fd : FuncData} {ps : List Str} {sp : Sp}
  {dvs : List V} {ds : List Value} {E : XK} {x : Str} {p pos : Pos} {e : Expr} {es : List Expr} {t : TA}
theorem goes {pins : List (Addr × Obj)} {σ : L2.St} {H : Hp} {s : Shared} {Q : VK} {us : List Value} {vs : List V}
    (F : FnG X.prog X.w X.K X.mg X.base CX k f fd ps sp) (free : X.A.guards = some []) (hr : Room k X.A)
    (hb : Binds X.K fd ps ds) (hd : Vals dvs ds) (hx : Passes CX X E)
    (I : Inv X pins σ H s) (r : Vals vs us) (h : sp (vs ++ dvs) H Q E) :
    wpAny (model X.prog X.w) X.A (call (.ref f) us) (EP X pins σ Q) X.xe s := by
  have both : Vals (vs ++ dvs) (us ++ ds) := r.append hd
  have many : (us ++ ds).length = ps.length := both.length.symm.trans (F.args _ _ _ _ h)
  have it := F.runs X.A X.stack s H ⟨us, []⟩ (us ++ ds) (vs ++ dvs) Q E free hr I.env0 (hb s us I.kIn many) both h
  refine wpAny_call (codeAny_mono it fun out s' told => ?_)
  match out, told with
  | .error e, told => exact hx pins σ H s e s' I told
  | .ok (.ret u), told => exact I.after told
  | .ok .next, told => exact told.elim
  | .ok .brk, told => exact told.elim
  | .ok .cont, told => exact told.elim
theorem pe_callG (F : FnG X.prog X.w X.K X.mg X.base CX k f fd ps sp) (free : X.A.guards = some []) (hr : Room k X.A)
    (hg : Gl X x) (hm : X.mg x = some (.ref f)) (hk : PySem.W.keepIn X.K (.ref f) = true)
    (hb : Binds X.K fd ps ds) (hd : Vals dvs ds) (hx : Passes CX X E) (ha : PA X (e :: es) t)
    (n1 : (x == ("__debug__" : Str)) = false := by decide)
    (n2 : starEach (e :: es) X.env = (false, eval e X.env) :: starEach es X.env := by rfl)
    (n3 : (backTo pos (starEach es X.env)).any (·.1) = false := by rfl) :
    PE X (.Call (.Name x p) (e :: es) [] pos) (tCall sp dvs E t) :=
  ⟨fun pins s σ H Q I h => wpAny_Call_Name_kw (ld_glob I hg hm
    (PySem.W.callWith_K (h₀ := X.base) I.ok.mod.kin hk
      (thn (ha.run pos pins s σ H _ I h) fun us s1 ⟨vs, H1, I1, r, q⟩ =>
        ⟨I1.kIn, goes F free hr hb hd hx I1 r q⟩) n2 n3) n1)⟩
end
/-- a def's body, where nothing is under repr -/
theorem fnG_of {CX : CXT} {P : Program} {w : World} {K : PySem.W.Frag} {mg : Str → Option Value} {base : Heap} {k : Nat}
    {f : Addr} {name qual : Str} {params : Arguments} {body : List Stmt} {scope : Scope} {dV kV doc pm cdv ct oc : Value}
    {an od : Option Addr} {osl : Array (Option Value)} {N ps : List Str} {sp : Sp}
    (lk : K.lookup f = some ⟨oc, od, .func (PySem.W.fnOf name qual params body scope dV kV doc pm an cdv ct), osl⟩)
    (coded : PySem.W.codeIn K cdv qual = true) (S : FnScope N ps scope)
    (len : ∀ zs G R W, sp zs G R W → zs.length = ps.length)
    (inner : ∀ (B : Around) (around : List Env) (t : Shared) (G : Hp) (zs : List V) (R : VK) (W : XK), B.guards = some [] →
      Room k (B.deeper (envOfC qual scope t.heap.objs.size f cdv)) → sp zs G R W →
      ∃ tb, PSs (cxOf CX P w K mg base N qual scope f cdv B around t G W) body tb ∧
        tb { nx := fun _ G' => R .non G', rt := R } (start N zs) G) :
    FnG P w K mg base CX (k + 1) f (PySem.W.fnOf name qual params body scope dV kV doc pm an cdv ct) ps sp := by
  refine ⟨len, fun B around t G given bound zs R W free room e0 bd rel asked => ?_⟩
  have many := len _ _ _ _ asked
  have KX : K.In t.heap := e0.mod.kin.keeps fun b o z => (e0.bs b o z).1
  have lim : t.heap.NoLimit := e0.mod.nolimit.keeps fun b o z => (e0.bs b o z).1
  have kinds : ∀ y ∈ ps.zip bound, scope.names.lookup y.1 = some .local ∨
      (scope.names.lookup y.1 = some .cell ∧ ((cellsFrom (t.heap.objs.size + 1) scope.names []).lookup y.1).isSome = true) := by
    intro y hy
    cases S.par y.1 (List.of_mem_zip hy).1 with
    | inl q => exact .inl q
    | inr q => exact .inr ⟨q, PySem.W.cellsFrom_some _ _ _ (.inl q)⟩
  refine codeAny_call_function room.depth (KX _ _ lk) rfl S.co S.gen rfl (PySem.W.codeRec_of KX coded) (bd _ _ _ _ ?_)
  refine wpAny_newFunctionEnv_cells S.kind kinds fun env same t1 made => ?_
  subst same
  refine ⟨lim.keeps made.toInCall.keep, codeAny_func ?_⟩
  obtain ⟨tb, derived, holds⟩ := inner B around t G zs R W free (room.deeper _) asked
  have J : Inv (cxOf CX P w K mg base N qual scope f cdv B around t G W) [] (start N zs) G t1 :=
    inv_start S room.hd e0 many rel made
  refine wpAny_mono (derived.run [] t1 (start N zs) G _ J holds) (fun fl t' told => ?_) fun e t' told => told
  match fl, told with
  | .ret u, ⟨v, σ', G', J', rv, q⟩ => exact ⟨v, G', J'.os, J'.bare, J'.base, J'.hok, rv, q⟩
  | .next, ⟨σ', G', J', q⟩ => exact ⟨V.non, G', J'.os, J'.bare, J'.base, J'.hok, (rfl : Value.none = Value.none), q⟩
  | .brk, ⟨_, _, _, q⟩ => exact q.elim
  | .cont, ⟨_, _, _, q⟩ => exact q.elim
theorem okG {P : Program} {w : World} {K : PySem.W.Frag} {mg : Str → Option Value} {base : Heap} {x qual : Str} {st : Stmt}
    {f : Addr} {fd : FuncData} {N ps : List Str} {k : Nat} {sp : Sp} (F : Fun K x qual st f fd) (S : FnScope N ps (defScope st))
    (len : ∀ zs G R W, sp zs G R W → zs.length = ps.length)
    (inner : ∀ (cdv : Value) (B : Around) (around : List Env) (t : Shared) (G : Hp) (zs : List V) (R : VK) (W : XK), B.guards = some [] →
      Room k (B.deeper (envOfC qual (defScope st) t.heap.objs.size f cdv)) → sp zs G R W →
      ∃ tb, PSs (cxOf CX0 P w K mg base N qual (defScope st) f cdv B around t G W).nox (defBody st) tb ∧
        tb { nx := fun _ G' => R .non G', rt := R } (start N zs) G) :
    FnG P w K mg base CX0 (k + 1) f fd ps sp := by
  obtain ⟨oc, od, kV, doc, pm, an, cdv, ct, osl, rfl, lk, coded⟩ := F.ex
  refine fnG_of lk coded S len fun B around t G zs R W free room asked => ?_
  obtain ⟨tb, derived, holds⟩ := inner cdv B around t G zs R W free room asked
  exact ⟨tb, derived.nox, holds⟩
/-- the law's own call -/
theorem law_callG {P : Program} {w : World} {K : PySem.W.Frag} {mg mb : Str → Option Value} {CX : CXT} {k : Nat} {fa a : Addr}
    {fd : FuncData} {x : Str} {sp : Sp} {s₁ : Shared} {vs : List Value} {ns : List Int}
    (KX : K.In s₁.heap) (gl : s₁.heap.Ns mainGlobals mg) (bl : s₁.heap.Ns builtinsNs mb)
    (boot : ∀ x : Str, x ≠ "__name__" → mb x = bootBuiltins x) (lim : s₁.heap.NoLimit) (nogens : s₁.gens = #[])
    (at_ : s₁.heap.get? a = some { cls := .type "list", data := .seq vs.toArray }) (nums : IntsAre vs ns) (short : ns.length ≤ sizeLine)
    (room : Room k callerA)
    (F : ∀ base : Heap, K.In base → base.Ns mainGlobals mg → FnG P w K mg base CX k fa fd [x] sp)
    (bound : ∀ (s : Shared) (u : Value), BindsTo s fd ⟨[u], []⟩ [(x, u)])
    (asked : ∀ H : Hp, Only H → SqL K H a (ns.map V.int) → sp [.ref a] H (fun v _ => v = .bl true) fun _ _ _ => False)
    (never : ∀ H e s', CX [] H s₁ (fun _ _ _ => False) e s' → False) :
    codeAny (model P w) callerA (.call (.ref fa) ⟨[.ref a], []⟩)
      (fun r s' => r = .ok (.ret (.bool true)) ∧ OldK s₁.heap s'.heap ∧ s'.os = s₁.os ∧ AllBare s'.gens) s₁ := by
  have rel := vals_ints nums
  have many := nums.length
  have from_ : ∀ H : Hp, Only H → SqL K H a (ns.map V.int) → HOk P w H s₁.heap → (∀ b, H b ≠ none → b = a) →
      (H a ≠ none → K.lookup a = none) → codeAny (model P w) callerA (.call (.ref fa) ⟨[.ref a], []⟩)
        (fun r s' => r = .ok (.ret (.bool true)) ∧ OldK s₁.heap s'.heap ∧ s'.os = s₁.os ∧ AllBare s'.gens) s₁ := by
    intro H only seq fine one away
    have down : ∀ {b : Addr} {o : Obj}, s₁.heap.get? b = some o → H b = none →
      (hidT s₁.heap H).get? b = some o := fun e n => hidT_get e n
    have untracked : ∀ {b : Addr} {o : Obj}, s₁.heap.get? b = some o → (b = a → False) → H b = none := by
      intro b o _ n
      by_cases q : H b = none
      · exact q
      · exact (n (one b q)).elim
    have nodict : ∀ {b : Addr} {o : Obj} {es : Array DictEntry} {ep : Nat},
        s₁.heap.get? b = some o → o.data = .dict es ep → H b = none := by
      intro b o es ep e d
      refine untracked e fun q => ?_
      rw [q, at_] at e
      have e' := Option.some.inj e
      rw [← e'] at d
      have d' : Data.seq vs.toArray _ = Data.dict es ep := d
      exact absurd d' (fun h => by cases h)
    have spaces : ∀ {b : Addr} {m : Str → Option Value}, s₁.heap.Ns b m → (hidT s₁.heap H).Ns b m := by
      intro b m ns
      obtain ⟨o, es, ep, e, d, r⟩ := ns
      exact ⟨o, es, ep, down e (nodict e d), d, r⟩
    have written : K.In (hidT s₁.heap H) := by
      intro b o e
      refine down (KX b o e) ?_
      by_cases q : H b = none
      · exact q
      · have same := one b q
        rw [same] at q e
        rw [away q] at e
        cases e
    have md : Mod K mg (hidT s₁.heap H) := by
      obtain ⟨mc, h1, h2⟩ := lim
      exact ⟨written, spaces gl, ⟨mb, spaces bl, boot⟩, ⟨mc, spaces h1, h2⟩⟩
    have e0 : Env0 P w K mg (hidT s₁.heap H) callerA [] s₁ H :=
      ⟨rfl, md, fun b o e => of_hidT e, Nat.le_of_eq (hidT_size _ _), trivial,
        fun b hb => (List.not_mem_nil (show b ∈ ([] : List Addr) from hb)).elim, fine, .of_eq nogens⟩
    have it := (F _ written (spaces gl)).runs callerA [] s₁ H ⟨[.ref a], []⟩ [.ref a] [.ref a] _ _ rfl room e0
      (bound s₁ (.ref a)) (.cons rfl .nil) (asked H only seq)
    refine codeAny_mono it fun out s' told => ?_
    match out, told with
    | .error e, told => exact (never H e s' told).elim
    | .ok .next, told => exact told.elim
    | .ok .brk, told => exact told.elim
    | .ok .cont, told => exact told.elim
    | .ok (.ret u), ⟨v, H', os, bare, un, fine', r', q⟩ =>
      have q' : v = .bl true := q
      subst q'
      have u' : u = Value.bool true := r'
      subst u'
      refine ⟨rfl, OldK.of_keep fun b o e => ?_, os, bare⟩
      cases q : H b with
      | none => exact un.keep b o e q (fun z => (List.not_mem_nil (show b ∈ ([] : List Addr) from z)).elim) (List.not_mem_nil)
      | some u =>
        rcases only b with z | ⟨ob, xs, z⟩
        · have z1 := q.symm.trans z
          cases z1
        · have z' := un.frzs b ob _ z
          have e1 := (fine b _ z).1
          have e2 := (fine' b _ z').1
          exact e2.trans (e1.symm.trans e)
  cases known : K.lookup a with
  | some o =>
    have e := (KX a o known).symm.trans at_
    have e' := Option.some.inj e
    subst e'
    refine from_ (fun _ => none) (fun _ => .inl rfl) (.inr ⟨_, vs.toArray, _, known, rfl, rfl, rfl, ?_, ?_⟩)
      (fun b u z => by have z1 : (none : Option HO) = some u := z; cases z1) (fun b z => (z rfl).elim) fun z => (z rfl).elim
    · rw [List.size_toArray, many]; exact short
    · simpa using rel
  | none =>
    have self : (fun b => if b = a then some (HO.frz { cls := .type "list", data := .seq vs.toArray } (.lst (ns.map V.int))) else none) a
        = some (HO.frz { cls := .type "list", data := .seq vs.toArray } (.lst (ns.map V.int))) := if_pos rfl
    refine from_ (fun b => if b = a then some (HO.frz { cls := .type "list", data := .seq vs.toArray } (.lst (ns.map V.int))) else none)
      (fun b => ?_) (.inl (.inr ⟨_, self⟩)) (fun b u z => ?_) (fun b z => ?_) fun _ => known
    · by_cases same : b = a
      · exact .inr ⟨_, _, if_pos same⟩
      · exact .inl (if_neg same)
    · by_cases same : b = a
      · subst same
        have z' := Option.some.inj ((if_pos rfl).symm.trans z)
        subst z'
        exact ⟨at_, by rw [List.length_map]; exact short, vs, _, rel, at_⟩
      · have z1 := (if_neg same).symm.trans z
        cases z1
    · by_cases same : b = a
      · exact same
      · exact (z (if_neg same)).elim
theorem walk_ofG {l : PySem.W.OpenLaw} {n k : Nat} {q : Program} {loose : List Str} {XP : (Str → Option Value) → Heap → Prop}
    {YP : World → Heap → Prop} {d : DefRec} {K : Params → PySem.W.Frag} {sp : PySem.W.Frag → Sp} {x : Str}
    (hn : l.most = some n) (hn2 : n ≤ sizeLine) (hdf : d.params.defaults = []) (room : Room k callerA)
    (hY : ∀ (w : World) (h : Heap), YP w h → (K w.params).In h)
    (F : ∀ (w : World) (mg : Str → Option Value) (fa : Addr) (h : Heap), (K w.params).In h → h.Ns mainGlobals mg →
      mg d.name = some (.ref fa) → ∃ fd : FuncData, (∀ (s : Shared) (u : Value), BindsTo s fd ⟨[u], []⟩ [(x, u)]) ∧
        ∀ base : Heap, (K w.params).In base → base.Ns mainGlobals mg →
          FnG l.prog w (K w.params) mg base CX0 k fa fd [x] (sp (K w.params)))
    (asked : ∀ (K : PySem.W.Frag) (H : Hp) (a : Addr) (ns : List Int), ns.length ≤ n → Only H → SqL K H a (ns.map V.int) →
      sp K [.ref a] H (fun v _ => v = .bl true) fun _ _ _ => False) :
    PySem.W.WalkO q loose XP YP l.row.toRowW d [] (fun f vs => PySem.call f vs) := by
  refine Att.attach_call hn hdf fun w s₀ s₁ mg mb fa o pm cd doc a vs ns G Y ho hd hcd named obj nums few nogens => ?_
  have KX := hY w _ Y
  obtain ⟨fd, bound, all⟩ := F w mg fa _ KX G.T.g named
  exact law_callG KX G.T.g G.T.b G.T.builtins G.T.nolimit nogens obj nums (Nat.le_trans few hn2) room all bound
    (fun H only seq => asked _ H a ns few only seq) fun H e s' z => z
end G0
namespace G0
open PySem PySem.Spec PyProof.Rows L2
/-! ### a def of the module's top, by its name -/
def Fn (K : PySem.W.Frag) (mg : Str → Option Value) (x : Str) (st : Stmt) : Prop :=
  ∃ f fd, Fun K x x st f fd ∧ mg x = some (.ref f)
def Cal (P : Program) (w : World) (K : PySem.W.Frag) (mg : Str → Option Value) (base : Heap) (x : Str) (k : Nat) (ps : List Str) (sp : Sp) : Prop :=
  ∃ f fd, FnG P w K mg base CX0 k f fd ps sp ∧ Binds K fd ps [] ∧ mg x = some (.ref f) ∧ PySem.W.keepIn K (.ref f) = true ∧
    ∃ oc od osl, K.lookup f = some ⟨oc, od, .func fd, osl⟩
theorem fn_top {K : PySem.W.Frag} {h : Heap} {mg : Str → Option Value} {x : Str} {st : Stmt} {f : Addr} {oc : Value} {od an : Option Addr}
    {osl : Array (Option Value)} {kV doc pm cdv ct : Value} (X : K.In h) (G : h.Ns mainGlobals mg)
    (a : PySem.W.nsIn K mainGlobals x = some (some (.ref f)))
    (l : K.lookup f = some ⟨oc, od, .func (PySem.W.fnOf x x (defArgs st) (defBody st) (defScope st) .none kV doc pm an cdv ct), osl⟩)
    (c : PySem.W.codeIn K cdv x = true) (k : PySem.W.keepIn K (.ref f) = true) : Fn K mg x st :=
  ⟨f, _, fun_mk l c k, PySem.W.mg_of X G a⟩
/-- a method of the class at C -/
def Fm (K : PySem.W.Frag) (C : Addr) (x qual : Str) (st : Stmt) : Prop := ∃ f fd, Fun K x qual st f fd ∧ Meth K C x f
theorem fm_top {K : PySem.W.Frag} {C : Addr} {x qual : Str} {st : Stmt} {f : Addr} {oc : Value} {od an : Option Addr}
    {osl : Array (Option Value)} {kV doc pm cdv ct : Value}
    (a : PySem.W.findIn K (.ref C) x = some (some (.ref f))) (i : PySem.W.isFn K (.ref f) = true)
    (l : K.lookup f = some ⟨oc, od, .func (PySem.W.fnOf x qual (defArgs st) (defBody st) (defScope st) .none kV doc pm an cdv ct), osl⟩)
    (c : PySem.W.codeIn K cdv qual = true) (k : PySem.W.keepIn K (.ref f) = true) : Fm K C x qual st :=
  ⟨f, _, fun_mk l c k, ⟨a, i, k⟩⟩
section
variable {P : Program} {w : World} {K : PySem.W.Frag} {mg : Str → Option Value} {base : Heap}
theorem cal_of {x : Str} {st : Stmt} {N ps : List Str} {k : Nat} {sp : Sp} (F : Fn K mg x st) (S : FnScope N ps (defScope st))
    (bd : ∀ (kV doc pm : Value) (an : Option Addr) (cdv ct : Value) (us : List Value), us.length = ps.length →
      bindArgs (PySem.W.fnOf x x (defArgs st) (defBody st) (defScope st) .none kV doc pm an cdv ct) ⟨us, []⟩ = pure (ps.zip us))
    (len : ∀ zs G R W, sp zs G R W → zs.length = ps.length)
    (inner : ∀ (f : Addr) (cdv : Value) (B : Around) (around : List Env) (t : Shared) (G : Hp) (zs : List V) (R : VK) (W : XK), B.guards = some [] →
      Room k (B.deeper (envOfC x (defScope st) t.heap.objs.size f cdv)) → sp zs G R W →
      ∃ tb, PSs (cxOf CX0 P w K mg base N x (defScope st) f cdv B around t G W).nox (defBody st) tb ∧
        tb { nx := fun _ G' => R .non G', rt := R } (start N zs) G) :
    Cal P w K mg base x (k + 1) ps sp := by
  obtain ⟨f, fd, F, m⟩ := F
  obtain ⟨oc, od, kV, doc, pm, an, cdv, ct, osl, e, lk, c⟩ := id F.ex
  exact ⟨f, fd, okG F S len (inner f), F.binds bd, m, F.kp, oc, od, osl, lk⟩
theorem Cal.mono {x : Str} {j k : Nat} {ps : List Str} {sp : Sp} (C : Cal P w K mg base x j ps sp) (h : j ≤ k) : Cal P w K mg base x k ps sp := by
  obtain ⟨f, fd, F, r⟩ := C
  exact ⟨f, fd, F.mono h, r⟩
/-- the law itself, at the end -/
theorem law_end {st : Stmt} {k : Nat} {sp : Sp} {fa : Addr} (F : Fn K mg "law" st) (hm : mg "law" = some (.ref fa))
    (bt : ∀ (kV doc pm : Value) (an : Option Addr) (cdv ct : Value) (s : Shared) (v : Value),
      BindsTo s (PySem.W.fnOf "law" "law" (defArgs st) (defBody st) (defScope st) .none kV doc pm an cdv ct) ⟨[v], []⟩ [("script", v)])
    (C : ∀ base : Heap, K.In base → base.Ns mainGlobals mg → Cal P w K mg base "law" k ["script"] sp) :
    ∃ fd : FuncData, (∀ (s : Shared) (v : Value), BindsTo s fd ⟨[v], []⟩ [("script", v)]) ∧
      ∀ base : Heap, K.In base → base.Ns mainGlobals mg → FnG P w K mg base CX0 k fa fd ["script"] sp := by
  obtain ⟨f, fd, F, m⟩ := F
  obtain ⟨oc, od, kV, doc, pm, an, cdv, ct, osl, e, lk, c⟩ := id F.ex
  have ef := m.symm.trans hm
  cases ef
  refine ⟨fd, fun s v => by rw [e]; exact bt _ _ _ _ _ _ s v, fun base kin ns => ?_⟩
  obtain ⟨f', fd', G, _, m', _, oc', od', osl', lk'⟩ := C base kin ns
  have ef := m.symm.trans m'
  cases ef
  have ed := lk.symm.trans lk'
  cases ed
  exact G
end
section
variable {X : Cx} {k : Nat} {ps : List Str} {sp : Sp} {x : Str} {p pos : Pos} {e : Expr} {es : List Expr} {t : TA}
theorem pe_cal (C : Cal X.prog X.w X.K X.mg X.base x k ps sp) (free : X.A.guards = some []) (hr : Room k X.A)
    (ha : PA X (e :: es) t) (hg : Gl X x := by rfl) (n1 : (x == ("__debug__" : Str)) = false := by decide)
    (n2 : starEach (e :: es) X.env = (false, eval e X.env) :: starEach es X.env := by rfl)
    (n3 : (backTo pos (starEach es X.env)).any (·.1) = false := by rfl) (hx : Passes CX0 X E0 := by exact pass0) :
    PE X (.Call (.Name x p) (e :: es) [] pos) (tCall sp [] E0 t) := by
  obtain ⟨f, fd, F, b, m, kp, _⟩ := C
  exact pe_callG F free hr hg m kp b .nil hx ha n1 n2 n3
/-! ### repr of data -/
def rRep (K : PySem.W.Frag) : List V → Hp → VK → Prop := fun xs H Q => ∃ (x : V) (d : PyData), xs = [x] ∧ Dp K H x d ∧
  d.showable = true ∧ d.hasDict = false ∧ d.depth ≤ 64 ∧ d.shown.length ≤ sizeLine ∧ Q (.str d.shown) H
theorem call_rep (free : X.A.guards = some []) (hu : X.A.units + 66 < cLine) : CallR X (.builtin "repr") (rRep X.K) := by
  intro pins s σ H xs us Q I r h
  obtain ⟨x, d, rfl, hd, hs, hn, h64, hz, q⟩ := h
  obtain ⟨u, rfl, rx⟩ := vals1 r
  have viaRef : ∀ (a : Addr), x = .ref a → wpAny (model X.prog X.w) X.A (call (.builtin "repr") [u]) (EP X pins σ Q) X.xe s := by
    intro a e
    subst e
    obtain rfl : u = Value.ref a := rx
    obtain ⟨as, rd⟩ := Dp.reads I d _ _ hd (rfl : RelV (.ref a) (.ref a))
    exact repr_of_reads' rd hs (PyData.noDict_hsm hn) free (by omega) (fun _ _ e => e)
      (fun h' w t kp => ⟨.str d.shown, H, I.kept (t' := t) kp, ⟨_, rfl⟩, q⟩) hz
  cases hd with
  | non =>
    obtain rfl : u = Value.none := rx
    exact PySem.P.repr_of_none ⟨.str _, H, I.tok _, ⟨_, rfl⟩, by simpa only [PyData.shown] using q⟩
  | bl b =>
    obtain rfl : u = Value.bool b := rx
    exact PySem.P.repr_of_bool ⟨.str _, H, I.tok _, ⟨_, rfl⟩, by simpa only [PyData.shown] using q⟩
  | int i =>
    obtain ⟨t, rfl⟩ := rx
    exact PySem.P.repr_of_int (by simpa [PyData.showable] using hs) ⟨.str _, H, I.tok _, ⟨_, rfl⟩, by simpa only [PyData.shown] using q⟩
  | str z =>
    obtain ⟨t, rfl⟩ := rx
    exact PySem.P.repr_of_str ⟨.str _, H, I.tok _, ⟨_, rfl⟩, by simpa only [PyData.shown] using q⟩ (by simpa only [PyData.shown] using hz)
  | lst _ _ => exact viaRef _ rfl
  | tup _ _ => exact viaRef _ rfl
/-! ### operators of several kinds in one -/
theorem u_eq (hu : X.A.units + 64 < cLine) : OpR X (compareOp .Eq) (fun x y H Q => rEq x y H Q ∨ rEqD X.K x y H Q) := op_eq.or (op_eqD hu)
theorem u_ne (hu : X.A.units + 64 < cLine) : OpR X (compareOp .NotEq) (fun x y H Q => rNe x y H Q ∨ rNeD X.K x y H Q) := op_ne.or (op_neD hu)
theorem u_in : OpR X (compareOp .In) (fun x y H Q => rIn X.K false x y H Q ∨ rInS x y H Q) := op_in_seq.or op_inS
theorem u_notin : OpR X (compareOp .NotIn) (fun x y H Q => rIn X.K true x y H Q ∨ rNotInS x y H Q) := op_notIn_seq.or op_notInS
end
theorem pe_fldK {X : Cx} {e : Expr} {f : Str} {pos : Pos} {ta : TE} (K : PySem.W.Frag) (ha : PE X e ta) (hK : X.K = K := by rfl)
    (hb : attributeBase e f X.env (eval e X.env) = eval e X.env := by rfl) : PE X (.Attribute e f pos) (tFld K ta f) := by
  subst hK
  exact pe_fld ha hb
/-! ### the written part named, for what stands within a comprehension -/
theorem op_K {X : Cx} {f : Value → Value → Sem Value} (r : PySem.W.Frag → R2) (K : PySem.W.Frag) (ho : OpR X f (r X.K)) (hK : X.K = K) : OpR X f (r K) := hK ▸ ho
theorem ix_K {X : Cx} (r : PySem.W.Frag → R2) (K : PySem.W.Frag) (ho : IxR X (r X.K)) (hK : X.K = K) : IxR X (r K) := hK ▸ ho
theorem call_K {X : Cx} {f : Value} (r : PySem.W.Frag → List V → Hp → VK → Prop) (K : PySem.W.Frag) (ho : CallR X f (r X.K)) (hK : X.K = K) : CallR X f (r K) := hK ▸ ho
section
variable {X : Cx} (K : PySem.W.Frag)
theorem u_inK (hK : X.K = K := by rfl) : OpR X (compareOp .In) (fun x y H Q => rIn K false x y H Q ∨ rInS x y H Q) := op_K (fun K x y H Q => rIn K false x y H Q ∨ rInS x y H Q) K u_in hK
theorem u_notinK (hK : X.K = K := by rfl) : OpR X (compareOp .NotIn) (fun x y H Q => rIn K true x y H Q ∨ rNotInS x y H Q) := op_K (fun K x y H Q => rIn K true x y H Q ∨ rNotInS x y H Q) K u_notin hK
theorem ix_listK (hK : X.K = K := by rfl) : IxR X (rIxL K) := ix_K rIxL K ix_list hK
theorem ix_tupK (hK : X.K = K := by rfl) : IxR X (rIxT K) := ix_K rIxT K ix_tup hK
theorem ix_seqK (hK : X.K = K := by rfl) : IxR X (rIx K) := ix_K rIx K ix_seq hK
theorem call_len_seqK (hK : X.K = K := by rfl) : CallR X (.builtin "len") (fun xs H Q => ∃ p ys, xs = [.ref p] ∧ (SqL K H p ys ∨ SqT K H p ys) ∧ Q (.int ys.length) H) :=
  call_K (fun K xs H Q => ∃ p ys, xs = [.ref p] ∧ (SqL K H p ys ∨ SqT K H p ys) ∧ Q (.int ys.length) H) K call_len_seq hK
end
/-! ### what changes: one list -/
/-- all that is tracked but p stays -/
def Chg (p : Addr) (H H' : Hp) : Prop := ∀ b o, b ≠ p → H b = some o → H' b = some o
theorem Chg.refl (p : Addr) (H : Hp) : Chg p H H := fun _ _ _ e => e
theorem Chg.trans {p : Addr} {H H1 H2 : Hp} (a : Chg p H H1) (b : Chg p H1 H2) : Chg p H H2 := fun c o n e => b c o n (a c o n e)
theorem Chg.self {p : Addr} {H : Hp} {o : HO} : Chg p H (upd H p o) := fun b u n e => by rw [upd_ne n]; exact e
theorem Chg.new {p q : Addr} {H H1 : Hp} {o : HO} (a : Chg p H H1) (n : H1 q = none) : Chg p H (upd H1 q o) := fun b u m e => by
  rw [upd_ne (ne_of_none (a b u m e) n)]; exact a b u m e
theorem Chg.same {p : Addr} {H H1 : Hp} (a : Same H H1) : Chg p H H1 := fun b o _ e => a b o e
theorem same_upd {H : Hp} {q : Addr} {o : HO} (n : H q = none) : Same H (upd H q o) := fun b u e => by
  rw [upd_ne (ne_of_none e n)]; exact e
/-! ### a law's draws: the pot -/
def PotL (n : Nat) (xs : List V) : Prop := ∃ a b c : Int, xs = [.int a, .int b, .int c] ∧ 0 ≤ a ∧ 0 ≤ b ∧ b < 2305843009213693951 ∧ 0 ≤ c ∧ c ≤ n
def PotAt (n : Nat) (H : Hp) (p : Addr) : Prop := ∃ xs, H p = some (.lst xs) ∧ PotL n xs
theorem PotL.mono {n m : Nat} {xs : List V} (h : PotL n xs) (le : n ≤ m) : PotL m xs := by
  obtain ⟨a, b, c, e, h1, h2, h3, h4, h5⟩ := h
  exact ⟨a, b, c, e, h1, h2, h3, h4, by omega⟩
theorem PotAt.mono {n m : Nat} {H : Hp} {p : Addr} (h : PotAt n H p) (le : n ≤ m) : PotAt m H p := by
  obtain ⟨xs, e, h⟩ := h
  exact ⟨xs, e, h.mono le⟩
theorem PotAt.keep {n : Nat} {H H' : Hp} {p : Addr} (h : PotAt n H p) (s : Same H H') : PotAt n H' p := by
  obtain ⟨xs, e, h⟩ := h
  exact ⟨xs, s _ _ e, h⟩
theorem PotAt.at {n : Nat} {H : Hp} {p : Addr} {xs : List V} (h : PotL n xs) : PotAt n (upd H p (.lst xs)) p := ⟨xs, upd_same, h⟩
end G0
namespace G0
open PySem PySem.Spec PyProof.Rows L2
/-! ### a set of tuples of ints that grows: set(), t in seen, seen.add(t) -/
def spot (t : SetTable) (h : Int) (c : Nat) : SetTable.Probe := nth t.mask (runAt t.mask (SetTable.bits h % (t.mask + 1)) (SetTable.bits h)) c
theorem spot_dummy (t : SetTable) (h : Int) : ∀ c, (spot t h c).dummy = none
  | 0 => rfl
  | c + 1 => by
    have ih := spot_dummy t h c
    unfold spot at ih ⊢
    rw [nth_succ]
    unfold adv
    split
    · exact ih
    · exact ih
theorem spot_on (t : SetTable) (h : Int) (c q : Nat) : nth t.mask (spot t h c) q = spot t h (c + q) := (nth_add t.mask c _ q).symm
theorem spot_place (t : SetTable) (h : Int) (c : Nat) : (spot t h c).j = way t.mask h c := rfl
section
variable {P : Program} {w : World} {A : Around} {E : Value → Shared → Prop} {s : Shared} {a : Addr} {L : List (Addr × List Int)} {es : Array (Int × Value)} {ep : Nat} {t : SetTable} {x : Addr} {k : List Int}
def heldAt (es : Array (Int × Value)) : Nat → Int := fun i => (es[i]?.map (·.1)).getD 0
theorem heldAt_of (R : SetTR P w s.heap a L es ep t) {i : Nat} {p : Addr × List Int} (hp : L[i]? = some p) : heldAt es i = thash P w p.2 := by
  unfold heldAt
  rw [R.entry hp]
  rfl
/-- looking for a tuple, from the c-th place of its way on; K: the first empty one -/
theorem look_on (R : SetTR P w s.heap a L es ep t) (hx : IsT P w s.heap k x) (room : A.units < cLine) {K : Nat} (few : K < 10 * SetTable.turns t.mask) (open_ : way t.mask (thash P w k) K ∉ t.place.toList)
    (shut : ∀ c, c < K → way t.mask (thash P w k) c ∈ t.place.toList) {Q : SetFound → Shared → Prop} (yes : k ∈ L.map (·.2) → ∀ i, Q (.there (some i)) s) (no : k ∉ L.map (·.2) → ∀ j, Q (.free j false) s) :
    ∀ (fuel c : Nat) (stand : Option SetTable.Probe), stand.getD (t.probeStart (thash P w k)) = spot t (thash P w k) c → c ≤ K → K < c + fuel →
      (∀ (i : Nat) (p : Addr × List Int), L[i]? = some p → p.2 = k → ∃ d, c ≤ d ∧ d < K ∧ t.place.toList[i]? = some (way t.mask (thash P w k) d)) →
      wpAny (model P w) A (setSearchFrom a (.ref x) (thash P w k) false fuel stand) Q E s
  | 0, c, stand, _, le, lt, _ => absurd lt (by omega)
  | fuel + 1, c, stand, st, le, lt, ahead => by
    obtain ⟨o, ho, _, od⟩ := R.ob
    rw [setSearchFrom_succ]
    refine wpAny_bind (wpAny_setState_of ho od R.fits ?_)
    dsimp only
    refine wp_if_neg R.gw ?_
    try refine wpAny_bind (wpAny_pure ?_)
    have told := go_spec t R.tab.ris R.tab.dm (heldAt es) (thash P w k) (10 * SetTable.turns t.mask) (K - c) (spot t (thash P w k) c) (spot_dummy ..) (by omega)
      (fun q lq => by rw [spot_on, spot_place]; exact shut _ (by omega)) (by rw [spot_on, spot_place, show c + (K - c) = K by omega]; exact open_)
    rcases told with ⟨q, i, lq, at_, _, first, pr⟩ | ⟨never, pr⟩
    · rw [spot_on, spot_place] at at_
      have pr' : t.probe (heldAt es) (thash P w k) (stand.getD (t.probeStart (thash P w k))) = some (.candidate (way t.mask (thash P w k) (c + q)) i (spot t (thash P w k) (c + (q + 1)))) := by
        rw [st, ← spot_place, ← spot_on, ← spot_on]
        exact pr
      show wpAny _ _ (do
        let some met := t.probe (heldAt es) (thash P w k) (stand.getD (t.probeStart (thash P w k))) | unsupported "internal:set-table-without-an-empty-slot"
        _) _ _ _
      rw [pr']
      dsimp only
      have il : i < L.length := by
        have z1 : i < t.place.toList.length := (List.getElem?_eq_some_iff.mp at_).1
        have z2 := R.tab.sz
        rw [List.length_map] at z2
        rw [Array.length_toList] at z1
        omega
      obtain ⟨p, hp⟩ : ∃ p, L[i]? = some p := ⟨_, List.getElem?_eq_getElem il⟩
      have pm := List.mem_of_getElem? hp
      have live := slot_live R.tab.ris at_
      have deep : wpAny (model P w) A (searchRest a (.ref x) (thash P w k) false fuel es t (way t.mask (thash P w k) (c + q)) i (spot t (thash P w k) (c + (q + 1)))) Q E s := by
        unfold searchRest
        rw [R.entry hp]
        dsimp only
        refine wpAny_bind (wpAny_holding (wpAny_eqBool_tuple room (R.tup p pm) hx ?_))
        refine wpAny_bind (wpAny_setState_of ho od R.fits ?_)
        dsimp only
        refine wp_if_neg (by simp) ?_
        try refine wpAny_bind (wpAny_pure ?_)
        rw [sameMem]
        dsimp only
        simp only [if_true, live, R.entry hp]
        refine wpAny_bind (wpAny_isSame_ref_self (wpAny_bind (wpAny_pure ?_)))
        simp only [if_true]
        by_cases same : p.2 = k
        · refine wp_if_pos (by simp [same]) ?_
          exact wpAny_pure (yes (List.mem_map.mpr ⟨p, pm, same⟩) i)
        · refine wp_if_neg (by simp [same]) ?_
          refine look_on R hx room few open_ shut yes no fuel (c + (q + 1)) _ rfl (by omega) (by omega) fun i' p' hp' same' => ?_
          obtain ⟨d, d1, d2, d3⟩ := ahead i' p' hp' same'
          refine ⟨d, ?_, d2, d3⟩
          by_cases e1 : d < c + q
          · refine absurd ?_ (first (d - c) i' (by omega) (by rw [spot_on, spot_place, show c + (d - c) = d by omega]; exact d3))
            rw [heldAt_of R hp', same']
          · by_cases e2 : d = c + q
            · rw [e2] at d3
              have live' := slot_live R.tab.ris d3
              rw [live] at live'
              cases live'
              rw [hp] at hp'
              cases hp'
              exact absurd same' same
            · omega
      by_cases led : t.led = true
      · refine wp_if_neg (by simp [led]) ?_
        try refine wpAny_bind (wpAny_pure ?_)
        exact deep
      · refine wp_if_pos (by simp [led]) ?_
        refine wpAny_bind (seen_tup hx (fun y my => ?_) ?_)
        · obtain ⟨r, mr, er⟩ := List.mem_map.mp my
          have mr' : r ∈ es.toList := by
            have : r ∈ es ∧ r.1 = thash P w k := by simpa using mr
            simpa using this.1
          rw [R.rows] at mr'
          obtain ⟨p', mp', ep'⟩ := List.mem_map.mp mr'
          exact ⟨p'.2, p'.1, by rw [← er, ← ep'], R.tup p' mp'⟩
        · refine wp_if_neg (by decide) ?_
          try refine wpAny_bind (wpAny_pure ?_)
          exact deep
    · have pr' : t.probe (heldAt es) (thash P w k) (stand.getD (t.probeStart (thash P w k))) = some (.empty (way t.mask (thash P w k) K) none) := by
        have e9 : nth t.mask (spot t (thash P w k) c) (K - c) = spot t (thash P w k) K := by rw [spot_on, show c + (K - c) = K by omega]
        rw [st, ← spot_place, ← e9]
        exact pr
      show wpAny _ _ (do
        let some met := t.probe (heldAt es) (thash P w k) (stand.getD (t.probeStart (thash P w k))) | unsupported "internal:set-table-without-an-empty-slot"
        _) _ _ _
      rw [pr']
      dsimp only
      refine wpAny_pure (no (fun m => ?_) _)
      obtain ⟨p, mp, same⟩ := List.mem_map.mp m
      obtain ⟨i, hp⟩ := List.mem_iff_getElem?.mp mp
      obtain ⟨d, d1, d2, d3⟩ := ahead i p hp same
      refine absurd ?_ (never (d - c) i (by omega) (by rw [spot_on, spot_place, show c + (d - c) = d by omega]; exact d3))
      rw [heldAt_of R hp, same]
theorem find_tup (R : SetTR P w s.heap a L es ep t) (hx : IsT P w s.heap k x) (room : A.units < cLine) {Q : Option Nat → Shared → Prop} (yes : k ∈ L.map (·.2) → ∀ i, Q (some i) s) (no : k ∉ L.map (·.2) → Q none s) :
    wpAny (model P w) A (setFind a (.ref x) (thash P w k)) Q E s := by
  have small := R.room
  obtain ⟨o, ho, _, od⟩ := R.ob
  obtain ⟨K, few, open_, shut⟩ := R.tab.first (by rw [List.length_map]; omega) (thash P w k)
  have Kb : K < 100000 := by
    refine Nat.lt_of_lt_of_le few (show 10 * SetTable.turns t.mask ≤ 100000 from ?_)
    unfold SetTable.turns
    rcases R.tab.mok with e | e | e <;> omega
  unfold setFind
  rw [show (100000 : Nat) = 99999 + 1 from rfl]
  unfold setFindIn
  refine wpAny_bind (wpAny_setState_of ho od R.fits ?_)
  dsimp only
  refine wp_if_neg (by simp [byScan, Value.scannable]) ?_
  try refine wpAny_bind (wpAny_pure ?_)
  unfold setSearch
  refine wpAny_bind (look_on R hx room few open_ shut (fun m i => ?_) (fun m j => ?_) 100000 0 none rfl (Nat.zero_le _) (by omega) fun i p hp same => ?_)
  · exact wpAny_pure (yes m i)
  · exact wpAny_pure (no m)
  · have e : (L.map fun p => thash P w p.2)[i]? = some (thash P w k) := by
      rw [List.getElem?_map, hp, ← same]
      rfl
    have il : i < t.place.toList.length := by
      have z1 := (List.getElem?_eq_some_iff.mp hp).1
      have z2 := R.tab.sz
      rw [List.length_map] at z2
      rw [Array.length_toList]
      omega
    obtain ⟨d, d1, d2⟩ := R.tab.before open_ e (List.getElem?_eq_getElem il)
    exact ⟨d, Nat.zero_le _, d1, by rw [List.getElem?_eq_getElem il, d2]⟩
theorem SetTR.isSet (R : SetTR P w s.heap a L es ep t) : s.TypeIs (.ref a) "set" := by
  obtain ⟨o, ho, ex, _⟩ := R.ob
  exact ⟨o, ho, ex.1⟩
/-- t in seen -/
theorem in_tup (R : SetTR P w s.heap a L es ep t) (hx : IsT P w s.heap k x) (room : A.units + 64 < cLine) {Q : Value → Shared → Prop}
    (h : Q (.bool (decide (k ∈ L.map (·.2)))) { s with toks := s.toks + (k.length + 1) }) : wpAny (model P w) A (compareOp .In (.ref x) (.ref a)) Q E s := by
  have R' : SetTR P w { s with toks := s.toks + (k.length + 1) }.heap a L es ep t := R
  have ty := SetTR.isSet R
  show wpAny _ _ (do return .bool (← contains (.ref a) (.ref x))) Q E s
  unfold contains
  refine wpAny_bind ?_
  try with_reducible refine wpAny_holding ?_
  refine wpAny_bind (wpAny_specialOf ty F.slot_set_contains.lookup ?_)
  show wpAny _ _ (if (some (Value.builtin "set.__contains__") == some Value.none) = true then _ else _) _ E s
  refine wp_if_neg (by rw [beq_builtin_none]; exact Bool.false_ne_true) ?_
  refine wpAny_bind (wpAny_callSpecialUnlessNone?_slot (name := Str.ofString "__contains__") ty F.slot_set_contains (wpAny_call_entry F.slot_set_contains ty entry_set_contains ?_ (F.args_set_contains_2 _ _)))
  unfold Builtin.«frozenset.__contains__» Builtin.Frozenset.oneOther
  simp only [List.isEmpty_nil, bind_assoc]
  unfold Builtin.Frozenset.addrOf Builtin.Frozenset.withSetAsKey setContains
  refine wpAny_bind (wpAny_pure ?_)
  try dsimp only
  refine wpAny_bind (wpAny_pure ?_)
  try dsimp only
  refine wpAny_bind (wpAny_tryCatch (wpAny_holding (wpAny_bind (wpAny_pyHash_tuple (by simp; omega) hx ?_))))
  refine wpAny_bind (find_tup (s := { s with toks := s.toks + (k.length + 1) }) R' hx (by simp; omega) (fun m i => ?_) (fun m => ?_))
  · rw [decide_eq_true m] at h
    exact wpAny_pure (wpAny_pure ⟨_, rfl, wpAny_truthy_bool (wpAny_pure h)⟩)
  · rw [decide_eq_false m] at h
    exact wpAny_pure (wpAny_pure ⟨_, rfl, wpAny_truthy_bool (wpAny_pure h)⟩)
/-- seen.add(t) -/
theorem add_tup (R : SetTR P w s.heap a L es ep t) (hx : IsT P w s.heap k x) (room : A.units + 64 < cLine) (few : L.length + 1 < 64) {Q : Value → Shared → Prop}
    (h : ∀ h' L' es' ep' t', Heap.SameBut a s.heap h' → SetTR P w h' a L' es' ep' t' → (k ∈ L.map (·.2) → L' = L) → (k ∉ L.map (·.2) → L'.Perm ((x, k) :: L)) → Q .none { s with heap := h', toks := s.toks + (k.length + 1) }) :
    wpAny (model P w) A (call (.builtin "set.add") [.ref a, .ref x]) Q E s := by
  have R' : SetTR P w { s with toks := s.toks + (k.length + 1) }.heap a L es ep t := R
  refine wpAny_call_entry F.slot_set_add (SetTR.isSet R) F.entry_set_add ?_ (F.args_set_add_2 _ _)
  unfold Builtin.«set.add» Builtin.Frozenset.oneOther
  simp only [List.isEmpty_nil, bind_assoc]
  unfold Builtin.Frozenset.addrOf setAdd
  refine wpAny_bind (wpAny_pure ?_)
  try dsimp only
  refine wpAny_bind (wpAny_pure ?_)
  try dsimp only
  refine wpAny_bind (wpAny_holding (wpAny_bind (wpAny_pyHash_tuple (by simp; omega) hx ?_)))
  refine add_at (s := { s with toks := s.toks + (k.length + 1) }) R' hx (by simp; omega) few fun b h' L' es' ep' t' sb new c1 c2 => ?_
  show wpAny _ _ (ret Value.none) _ _ _
  exact wpAny_pure ⟨_, rfl, h h' L' es' ep' t' sb new c1 c2⟩
end
section
variable {X : Cx}
theorem setT_full {pins : List (Addr × Obj)} {σ : L2.St} {H : Hp} {s : Shared} {a : Addr} {L : List (Addr × List Int)} (I : Inv X pins σ H s) (ha : H a = some (SetTO X.prog X.w a L)) (ts : ∀ p ∈ L, SqT X.K H p.1 (p.2.map V.int)) :
    ∃ es ep t, SetTR X.prog X.w s.heap a L es ep t := SetT0.full (I.hok a _ ha).1 fun p hp => I.isT (ts p hp)
/-- set(), to be filled with tuples -/
theorem cr_set0T : CallR X (.type "set") (fun xs H Q => xs = [] ∧ ∀ p, H p = none → Q (.ref p) (upd H p (SetTO X.prog X.w p []))) := by
  rintro pins s σ H xs us Q I r ⟨rfl, q⟩
  cases r
  refine setR_new fun _ => ⟨.ref _, upd H s.heap.objs.size (SetTO X.prog X.w s.heap.objs.size []), ?_, rfl, q _ (I.hok.fresh (Nat.le_refl _))⟩
  exact I.laid (t' := s.toks) (fun b u e => Heap.get?_push_of_some _ e) (Nat.le_refl _) (setTO_new (setTR_fresh (Heap.get?_push_size _ rfl)).t0)
def rInT (K : PySem.W.Frag) (P : Program) (w : World) : V → V → Hp → VK → Prop := fun x y H Q => ∃ (t a : Addr) (k : List Int) (L : List (Addr × List Int)), x = V.ref t ∧ y = V.ref a ∧ H a = some (SetTO P w a L) ∧ SqT K H t (k.map V.int) ∧
  (∀ p ∈ L, SqT K H p.1 (p.2.map V.int)) ∧ Q (.bl (decide (k ∈ L.map (·.2)))) H
theorem op_inT (room : X.A.units + 64 < cLine) : OpR X (compareOp .In) (rInT X.K X.prog X.w) := by
  rintro pins s σ H x y v u Q I rx ry ⟨t, a, k, L, rfl, rfl, ha, ht, ts, q⟩
  cases rx
  cases ry
  obtain ⟨es, ep, tb, R⟩ := setT_full I ha ts
  exact in_tup R (I.isT ht) room ⟨.bl (decide (k ∈ L.map fun p : Addr × List Int => p.2)), H, I.tok _, rfl, q⟩
def rAddT (K : PySem.W.Frag) (P : Program) (w : World) : V → List V → Hp → VK → Prop := fun x vs H Q => ∃ (a t : Addr) (k : List Int) (L : List (Addr × List Int)), x = V.ref a ∧ vs = [V.ref t] ∧ H a = some (SetTO P w a L) ∧ SqT K H t (k.map V.int) ∧
  (∀ p ∈ L, SqT K H p.1 (p.2.map V.int)) ∧ L.length + 1 < 64 ∧ ∀ L', (k ∈ L.map (·.2) → L' = L) → (k ∉ L.map (·.2) → L'.Perm ((t, k) :: L)) → Q .non (upd H a (SetTO P w a L'))
theorem mt_addT (room : X.A.units + 64 < cLine) : MtR X "set.add" (rAddT X.K X.prog X.w) := by
  rintro pins s σ H x vs v us Q I rx rv ⟨a, t, k, L, rfl, rfl, ha, ht, ts, few, q⟩
  cases rx
  obtain ⟨u, rfl, ru⟩ := rv.one
  cases ru
  obtain ⟨es, ep, tb, R⟩ := setT_full I ha ts
  refine add_tup R (I.isT ht) room few fun h' L' es' ep' t' sb new c1 c2 => ?_
  have there : ∃ u, h'.get? a = some u := by
    obtain ⟨o, ho, _⟩ := new.ob
    exact ⟨o, ho⟩
  exact ⟨.non, upd H a (SetTO X.prog X.w a L'), I.write (e := a) (t' := s.toks + (k.length + 1)) (by rw [ha]; trivial) (.inl rfl) (fun b u hb hu => (sb.2 b hb).trans hu) there (setTO_new new.t0), rfl, q L' c1 c2⟩
def tAddT (K : PySem.W.Frag) (P : Program) (w : World) (to : TE) (t : TA) : TE := fun σ H Q => to σ H fun x H1 => (∃ a L, x = V.ref a ∧ H1 a = some (SetTO P w a L) ∧ ∀ p ∈ L, SqT K H1 p.1 (p.2.map V.int)) ∧ t σ H1 fun vs H2 => rAddT K P w x vs H2 Q
variable {o e : Expr} {es : List Expr} {to : TE} {t : TA} {apos cpos : Pos}
theorem pe_addT (room : X.A.units + 64 < cLine) (ho : PE X o to) (ha : PA X (e :: es) t)
    (m1 : attributeBase o "add" X.env (eval o X.env) = eval o X.env := by rfl)
    (m2 : ((backTo cpos (starEach (e :: es) X.env)).all (fun x => !x.1) && (backToKw cpos (keywordEach [] X.env)).all (fun x => x.1.isSome) && decide ((e :: es).length + ([] : List Keyword).length + (if ([] : List Keyword).isEmpty then 0 else 1) < 30)) = true := by rfl)
    (m3 : (apos.endLine == cpos.line) = true := by rfl) (m4 : starEach (e :: es) X.env = (false, eval e X.env) :: starEach es X.env := by rfl) (m5 : (backTo cpos (starEach es X.env)).any (·.1) = false := by rfl) :
    PE X (.Call (.Attribute o "add" apos) (e :: es) [] cpos) (tAddT X.K X.prog X.w to t) := by
  refine ⟨fun pins s σ H Q I h => wpAny_Call_method_late m1 m2 m3 rfl (thn (ho.run pins s σ H _ I h) fun v s1 ⟨x, H1, I1, r1, ty, q1⟩ => ?_)⟩
  obtain ⟨a, L, rfl, hka, ts⟩ := ty
  obtain ⟨es', ep, tb, R⟩ := setT_full I1 hka ts
  cases r1
  refine ⟨"set", "set.add", F.plainAttrs_set, F.slot_set_add, F.type_set_add, SetTR.isSet R, fun b eb => ?_, ?_⟩
  · cases eb
    obtain ⟨oo, hoo, ex, _⟩ := R.ob
    exact ⟨oo, hoo, ex.2.1⟩
  have hA := ha.run cpos pins s1 σ H1 _ I1 q1
  rw [m4] at hA ⊢
  refine Calls.callWith_builtin (by show (false || (backTo cpos (starEach es X.env)).any (·.1)) = false; rw [m5]; rfl) (Calls.evalArgs_plain ?_)
  exact thn hA fun us s2 ⟨vs, H2, I2, r2, q2⟩ => mt_addT room pins s2 σ H2 (.ref a) vs (.ref a) us Q I2 rfl r2 q2
end
end G0
namespace G0
open PySem PySem.Spec PyProof.Rows L2
/-! ### set(xs) of a list of ints, with its order; sorted of it: sorted_set of the library -/
abbrev bare (w : World) : Obj := { cls := .type "set", dict := none, data := .set #[] 0 (.fresh 0 0 (!w.params.followText "set-order")) }
section
variable {P : Program} {w : World} {A : Around} {E : Value → Shared → Prop} {s : Shared}
set_option maxRecDepth 100000 in
set_option maxHeartbeats 3200000 in
theorem set_of_ints {l : Addr} {items : Array Value} (ns : List Int) {Q : Value → Shared → Prop} (calm : A.handled = none) (il : s.heap.IsList l items) (are : IntsAre items.toList ns) (few : ns.length + 1 < scanBound)
    (h : ∀ (h' : Heap) (tk c : Nat), SetR w h' s.heap.objs.size (fun j => decide (j ∈ ns)) c → c ≤ ns.length → (∀ b o, s.heap.get? b = some o → h'.get? b = some o) → Q (.ref s.heap.objs.size) { s with heap := h', toks := tk }) :
    wpAny (model P w) A (call (.type "set") [.ref l]) Q E s := by
  have sz : items.size = ns.length := by
    rw [← IntsAre.length are, Array.length_toList]
  obtain ⟨c, tl, mro⟩ := F.called_set.mro
  have m1 := F.called_set.made
  have m2 := F.called_set.sub
  refine wpAny_call (codeAny_of_tree ?_)
  show wpAny _ _ (callAny (.type "set") _) _ _ _
  refine wpAny_pure ⟨Code.quiet_builtin _ (by decide +kernel), codeAny_builtin F.entry_type_call ?_⟩
  rw [Around.under_plain (weight_type_call_type "set" [.ref l] []) rfl]
  have m3 := F.called_set.notType
  have m4 := F.called_set.canCreate
  have m5 := F.typeCall_set_1 (.ref l)
  repeat any_goals first | assumption | wp_step
  refine codeAny_mono (code_set_led1 (.ref l) (E := E) (Q₁ := fun obj s1 => obj = .ref s.heap.objs.size ∧ s1 = { s with heap := s.heap.push (bare w) }) ⟨rfl, rfl⟩) fun r s1 told => ?_
  match r, told with
  | .error e, told => exact told
  | .ok .next, told => exact told.elim
  | .ok .brk, told => exact told.elim
  | .ok .cont, told => exact told.elim
  | .ok (.ret obj), told =>
    obtain ⟨rfl, rfl⟩ := told
    have at1 : (s.heap.push (bare w)).get? s.heap.objs.size = some (bare w) := Heap.get?_push_size _ rfl
    have ty1 : Shared.TypeIs { s with heap := s.heap.push (bare w) } (.ref s.heap.objs.size) "set" := ⟨_, at1, rfl⟩
    have i1 := F.called_set.init.lookup
    have i2 := F.called_set.init.bind (.ref s.heap.objs.size)
    repeat any_goals first | assumption | wp_step
    refine codeAny_mono (codeAny_call_builtin (R := wants (fun r s2 => r = .none ∧ ∃ h' tk c, s2 = { s with heap := h', toks := tk } ∧ SetR w h' s.heap.objs.size (fun j => decide (j ∈ ns)) c ∧ c ≤ ns.length ∧
      (∀ b o, s.heap.get? b = some o → h'.get? b = some o)) E) F.called_set.init.plain F.entry_set_init (check_set_init_1 ty1 ?_)) fun r2 s2 told2 => ?_
    · obtain ⟨⟨k1, k2, k3, k4⟩, ol, oc, nl, od⟩ := il
      simp only at oc od
      subst oc
      subst od
      have ol' : (s.heap.push (bare w)).get? l = some { cls := .type "list", dict := k2, data := .seq items nl, slots := k4 } := Heap.get?_push_of_some _ ol
      have b1 := F.sub_list_set
      have b2 := F.sub_list_frozenset
      have b3 : (Value.type "list" == Value.type "dict") = false := by decide
      have il1 : (s.heap.push (bare w)).IsList l items := ⟨_, ol', rfl, nl, rfl⟩
      unfold Builtin.«set.__init__» noKeywords Builtin.Frozenset.updateFrom
      generalize gen : pyIter = walker
      wp_walk
      subst gen
      refine wpAny_pyIter_list il1 (wpAny_bind (wpAny_runValue ?_))
      have ll : l < s.heap.objs.size := Heap.lt_size ol
      have z1 : (s.heap.push (bare w)).objs.size = s.heap.objs.size + 1 := Heap.size_push ..
      have d1 : l ≠ (s.heap.push (bare w)).objs.size := by rw [z1]; exact Nat.ne_of_lt (Nat.lt_succ_of_lt ll)
      have d2 : s.heap.objs.size ∉ [(s.heap.push (bare w)).objs.size, l] := by
        simp only [List.mem_cons, List.not_mem_nil, or_false, not_or]
        rw [z1]
        exact ⟨Nat.ne_of_lt (Nat.lt_succ_self _), Nat.ne_of_gt ll⟩
      have vals : ∀ (i : Nat) (v : Value), items[i]? = some v → ∃ k t, ns[i]? = some k ∧ v = .int k t := fun i v hv => by
        have li : i < ns.length := by
          rw [← sz]
          exact (Array.getElem?_eq_some_iff.mp hv).1
        obtain ⟨t, e⟩ := PyProof.Rows.IntsAre.int_at are i v (by rw [Array.getElem?_toList]; exact hv)
        refine ⟨ns[i], t, List.getElem?_eq_getElem li, ?_⟩
        rw [e, List.getD_eq_getElem?_getD, List.getElem?_eq_getElem li]
        rfl
      refine set_update_ints ((Walks.list (by simp [calm]) _ l d1 items).toS) s.heap.objs.size d2 ns sz few vals (items.size - 0) 0 _ (by omega) (Nat.zero_le _)
        ⟨⟨_, Heap.get?_push_size _ rfl, rfl, rfl⟩, (il1.push _)⟩ ⟨0, Nat.le_refl 0, setR_new_at (Heap.get?_push_of_some _ at1)⟩ fun s' c' moved le new => ?_
      obtain ⟨h', g', d', tk', o'⟩ := s'
      have y1 : g' = s.gens := moved.gens
      have y2 : d' = s.drawn := moved.drawn
      have y3 : o' = s.os := moved.os
      subst y1 y2 y3
      show wpAny _ _ _ _ _ _
      refine wpAny_pure ?_
      show wpAny _ _ (ret Value.none) _ _ _
      rw [sz] at le
      refine wpAny_pure ⟨rfl, h', tk', c', rfl, new, le, fun b o e => moved.heap b o ?_ (Heap.get?_push_of_some _ (Heap.get?_push_of_some _ e))⟩
      have lb := Heap.lt_size e
      simp only [List.mem_cons, List.not_mem_nil, or_false, not_or]
      rw [z1]
      exact ⟨Nat.ne_of_lt lb, Nat.ne_of_lt (Nat.lt_succ_of_lt lb)⟩
    · match r2, told2 with
      | .error e, told2 => exact told2
      | .ok .next, told2 => exact told2.elim
      | .ok .brk, told2 => exact told2.elim
      | .ok .cont, told2 => exact told2.elim
      | .ok (.ret r), told2 =>
        obtain ⟨rfl, h', tk, c, rfl, new, le, old⟩ := told2
        repeat any_goals first | assumption | wp_step
        exact h _ _ _ new le old
end
section
variable {X : Cx}
def rSetOfI (K : PySem.W.Frag) (w : World) : List V → Hp → VK → Prop := fun xs H Q => ∃ (l : Addr) (ns : List Int), xs = [V.ref l] ∧ SqL K H l (ns.map V.int) ∧ ns.length < 64 ∧ ∀ a c, H a = none → c ≤ ns.length → Q (.ref a) (upd H a (SetO w a (fun j => decide (j ∈ ns)) c))
theorem cr_setOfI (calm : X.calm = true) : CallR X (.type "set") (rSetOfI X.K X.w) := by
  rintro pins s σ H xs us Q I r ⟨l, ns, rfl, hl, few, q⟩
  rw [Vals.ref1 r]
  obtain ⟨its, rv, pl, _⟩ := I.list hl
  refine set_of_ints (P := X.prog) (w := X.w) ns (I.ok.hd calm) pl.isList (by simpa using rv.ints) (by unfold scanBound; omega) fun h' tk c new le old => ?_
  exact ⟨.ref s.heap.objs.size, upd H s.heap.objs.size (SetO X.w s.heap.objs.size (fun j => decide (j ∈ ns)) c), I.laid (t' := tk) old (Nat.le_refl _) (setO_new new), rfl, q _ c (I.hok.fresh (Nat.le_refl _)) le⟩
end
end G0
namespace G0
open PySem PySem.Spec PyProof.Rows L2
/-! ### data -/
mutual
def noL : PyData → Bool
  | .none | .bool _ | .int _ | .str _ => true
  | .list _ | .dict _ => false
  | .tuple xs => noLs xs
def noLs : List PyData → Bool
  | [] => true
  | x :: xs => noL x && noLs xs
end
section
variable {K : PySem.W.Frag} {H H' : Hp} {p : Addr}
theorem sqt_chg (hp : ∃ xs, H p = some (.lst xs)) (c : Chg p H H') {a : Addr} {xs : List V} (h : SqT K H a xs) : SqT K H' a xs := by
  obtain ⟨ys, hp⟩ := hp
  rcases h with (h | ⟨o, h⟩) | h
  · exact .inl (.inl (c _ _ (ne_of h hp (by intro z; cases z)) h))
  · exact .inl (.inr ⟨o, c _ _ (ne_of h hp (by intro z; cases z)) h⟩)
  · exact .inr h
theorem sqt_same (c : Same H H') {a : Addr} {xs : List V} (h : SqT K H a xs) : SqT K H' a xs := by
  rcases h with (h | ⟨o, h⟩) | h
  · exact .inl (.inl (c _ _ h))
  · exact .inl (.inr ⟨o, c _ _ h⟩)
  · exact .inr h
mutual
theorem dp_chg (hp : ∃ xs, H p = some (.lst xs)) (c : Chg p H H') : ∀ (d : PyData) (v : V), noL d = true → Dp K H v d → Dp K H' v d
  | .none, _, _, h => by cases h; exact .non
  | .bool _, _, _, h => by cases h; exact .bl _
  | .int _, _, _, h => by cases h; exact .int _
  | .str _, _, _, h => by cases h; exact .str _
  | .list _, _, n, _ => by simp [noL] at n
  | .dict _, _, n, _ => by simp [noL] at n
  | .tuple ds, _, n, h => by
    cases h with
    | tup hs ha => exact .tup (sqt_chg hp c hs) (dps_chg hp c ds _ (by simpa [noL] using n) ha)
theorem dps_chg (hp : ∃ xs, H p = some (.lst xs)) (c : Chg p H H') : ∀ (ds : List PyData) (vs : List V), noLs ds = true → DpAll K H vs ds → DpAll K H' vs ds
  | [], _, _, h => by cases h; exact .nil
  | d :: ds, _, n, h => by
    simp only [noLs, Bool.and_eq_true] at n
    cases h with
    | cons h1 h2 => exact .cons (dp_chg hp c d _ n.1 h1) (dps_chg hp c ds _ n.2 h2)
end
mutual
theorem dp_same (c : Same H H') : ∀ (d : PyData) (v : V), Dp K H v d → Dp K H' v d
  | .none, _, h => by cases h; exact .non
  | .bool _, _, h => by cases h; exact .bl _
  | .int _, _, h => by cases h; exact .int _
  | .str _, _, h => by cases h; exact .str _
  | .list ds, _, h => by
    cases h with
    | lst hs ha => exact .lst (c.seq hs) (dps_same c ds _ ha)
  | .dict _, _, h => by cases h
  | .tuple ds, _, h => by
    cases h with
    | tup hs ha => exact .tup (sqt_same c hs) (dps_same c ds _ ha)
theorem dps_same (c : Same H H') : ∀ (ds : List PyData) (vs : List V), DpAll K H vs ds → DpAll K H' vs ds
  | [], _, h => by cases h; exact .nil
  | d :: ds, _, h => by
    cases h with
    | cons h1 h2 => exact .cons (dp_same c d _ h1) (dps_same c ds _ h2)
end
theorem dps_app {vs ws : List V} {ds es : List PyData} : DpAll K H vs ds → DpAll K H ws es → DpAll K H (vs ++ ws) (ds ++ es) := by
  intro h g
  match vs, ds, h with
  | [], [], _ => exact g
  | _ :: _, _ :: _, .cons h1 h2 => exact .cons h1 (dps_app h2 g)
theorem dps_len {vs : List V} {ds : List PyData} : DpAll K H vs ds → vs.length = ds.length := by
  intro h
  match vs, ds, h with
  | [], [], _ => rfl
  | _ :: _, _ :: _, .cons _ h2 => exact congrArg (· + 1) (dps_len h2)
end
theorem noLs_of : ∀ {ds : List PyData}, (∀ d ∈ ds, noL d = true) → noLs ds = true
  | [], _ => rfl
  | d :: ds, h => by
    simp only [noLs, Bool.and_eq_true]
    exact ⟨h d (List.mem_cons_self ..), noLs_of fun x hx => h x (List.mem_cons_of_mem _ hx)⟩
/-! ### things and letters -/
inductive Thing : Nat → PyData → Prop
  | num {n : Nat} {i : Int} : 0 ≤ i → i < 10 ^ 60 → Thing n (.int i)
  | tup {n : Nat} {ds : List PyData} : ds.length ≤ 2 → (∀ d ∈ ds, Thing n d) → Thing (n + 1) (.tuple ds)
theorem Thing.noL {n : Nat} {d : PyData} (h : Thing n d) : noL d = true := by
  induction h with
  | num _ _ => rfl
  | tup _ _ ih =>
    simp only [G0.noL]
    exact noLs_of ih
theorem Thing.mono {n m : Nat} {d : PyData} (h : Thing n d) (le : n ≤ m) : Thing m d := by
  induction h generalizing m with
  | num a b => exact .num a b
  | tup l _ ih =>
    cases m with
    | zero => omega
    | succ m => exact .tup l fun d hd => ih d hd (by omega)
def WordOk (z : Str) : Prop := 1 ≤ z.length ∧ z.length ≤ 8 ∧ (∀ c ∈ z.cps.toList, 97 ≤ c ∧ c ≤ 122) ∧ z ≠ "gone"
def LetterD (d : PyData) : Prop := ∃ (z : Str) (ds : List PyData), d = .tuple (.str z :: ds) ∧ WordOk z ∧ ds.length ≤ 5 ∧ ∀ x ∈ ds, Thing 3 x
theorem LetterD.noL {d : PyData} (h : LetterD d) : noL d = true := by
  obtain ⟨z, ds, rfl, _, _, hd⟩ := h
  simp only [G0.noL, noLs, Bool.true_and]
  exact noLs_of fun x hx => (hd x hx).noL
theorem Chg.mut {p D : Addr} {H0 H1 : Hp} {o : HO} (a : Chg p H0 H1) (n : H0 D = none) : Chg p H0 (upd H1 D o) := fun b u m e => by
  rw [upd_ne (ne_of_none e n)]; exact a b u m e
theorem PotAt.ne {n : Nat} {H H' : Hp} {p D : Addr} {o : HO} (h : PotAt n H p) (d : p ≠ D) (e : H' = upd H D o) : PotAt n H' p := by
  obtain ⟨xs, q, r⟩ := h
  exact ⟨xs, by rw [e, upd_ne d]; exact q, r⟩
theorem PotAt.new {n : Nat} {H : Hp} {p D : Addr} {o : HO} (h : PotAt n H p) (d : H D = none) : PotAt n (upd H D o) p := h.keep (same_upd d)
theorem PotAt.neD {n : Nat} {H : Hp} {p D : Addr} (h : PotAt n H p) (d : H D = none) : p ≠ D := by
  obtain ⟨xs, q, r⟩ := h
  exact ne_of_none q d
theorem PotAt.lst {n : Nat} {H : Hp} {p : Addr} (h : PotAt n H p) : ∃ xs, H p = some (.lst xs) := by
  obtain ⟨xs, q, r⟩ := h
  exact ⟨xs, q⟩
theorem PotAt.neT {n : Nat} {H : Hp} {p t : Addr} {xs : List V} (h : PotAt n H p) (d : H t = some (.tup xs)) : t ≠ p := by
  obtain ⟨ys, q, r⟩ := h
  exact ne_of d q (by intro z; cases z)
theorem Cal.imp {P : Program} {w : World} {K : PySem.W.Frag} {mg : Str → Option Value} {base : Heap} {x : Str} {k : Nat} {ps : List Str} {sp sp' : Sp}
    (C : Cal P w K mg base x k ps sp) (h : ∀ vs H Q E, sp' vs H Q E → sp vs H Q E) : Cal P w K mg base x k ps sp' := by
  obtain ⟨f, fd, F, r⟩ := C
  exact ⟨f, fd, ⟨fun a b c d q => F.args _ _ _ _ (h _ _ _ _ q), fun A o s H args us vs Q E fr hr he hb hv hs => F.runs A o s H args us vs Q E fr hr he hb hv (h _ _ _ _ hs)⟩, r⟩
theorem cal_no {P : Program} {w : World} {K : PySem.W.Frag} {mg : Str → Option Value} {base : Heap} {x : Str} {st : Stmt} {ps : List Str} (F : Fn K mg x st)
    (bd : ∀ (kV doc pm : Value) (an : Option Addr) (cdv ct : Value) (us : List Value), us.length = ps.length →
      bindArgs (PySem.W.fnOf x x (defArgs st) (defBody st) (defScope st) .none kV doc pm an cdv ct) ⟨us, []⟩ = pure (ps.zip us)) :
    Cal P w K mg base x 0 ps (fun _ _ _ _ => False) := by
  obtain ⟨f, fd, F, m⟩ := F
  obtain ⟨oc, od, kV, doc, pm, an, cdv, ct, osl, e, lk, c⟩ := id F.ex
  exact ⟨f, fd, ⟨fun _ _ _ _ h => h.elim, fun _ _ _ _ _ _ _ _ _ _ _ _ _ _ h => h.elim⟩, F.binds bd, m, F.kp, oc, od, osl, lk⟩
/-! ### texts of small letters -/
theorem az : ∀ j : Fin 26, (("abcdefghijklmnopqrstuvwxyz" : Str).cps.toList)[j.val]? = some (97 + j.val) := by decide +kernel
theorem az_at {d : Int} (h0 : 0 ≤ d) (h1 : d < 26) : atI ("abcdefghijklmnopqrstuvwxyz" : Str).cps.toList d = some (97 + d.toNat) := by
  have e : d = ((d.toNat : Nat) : Int) := by omega
  have q := az ⟨d.toNat, by omega⟩
  rw [e]
  exact atI_nat q
def sg (c : Nat) : Str := ⟨#[c]⟩
open TL in
theorem joinL_sg : ∀ cs : List Nat, joinL [] (cs.map fun c => [c]) = cs
  | [] => rfl
  | [c] => rfl
  | c :: d :: r => by
    show [c] ++ ([] ++ joinL [] ((d :: r).map fun c => [c])) = c :: d :: r
    rw [joinL_sg (d :: r)]
    rfl
open TL in
theorem tl_of (z : Str) : tl z = z.cps.toList := rfl
open TL in
theorem join_sg (cs : List Nat) : (Txt.join "" (cs.map sg)).cps.toList = cs := by
  rw [join_eq, ← tl_of, tl_join]
  have e : (cs.map sg).map tl = cs.map fun c => [c] := by rw [List.map_map]; rfl
  rw [e]
  exact joinL_sg cs
open TL in
theorem join_sg_len (cs : List Nat) : (Txt.join "" (cs.map sg)).length = cs.length := by
  have e := congrArg List.length (join_sg cs)
  rw [← e]
  show _ = (Txt.join "" (cs.map sg)).cps.toList.length
  simp [Str.length]
theorem sum_sg : ∀ cs : List Nat, ((cs.map sg).map (·.length)).sum = cs.length
  | [] => rfl
  | c :: r => by
    show 1 + ((r.map sg).map (·.length)).sum = r.length + 1
    rw [sum_sg r]; omega

end G0
namespace G0
open PySem PySem.Spec PyProof.Rows L2
theorem iteF' {c : Bool} {A B : Prop} (e : c = false) (h : B) : if c = true then A else B := by rw [e]; exact iteF h
theorem iteT' {c : Bool} {A B : Prop} (e : c = true) (h : A) : if c = true then A else B := by rw [e]; exact iteT h
/-! ### several lists may change -/
def ChgS (S : List Addr) (H H' : Hp) : Prop := ∀ b o, b ∉ S → H b = some o → H' b = some o
section
variable {S : List Addr} {p q : Addr} {H H' H0 H1 H2 : Hp} {o : HO}
theorem ChgS.refl : ChgS S H H := fun _ _ _ e => e
theorem ChgS.trans (a : ChgS S H H1) (b : ChgS S H1 H2) : ChgS S H H2 := fun c o n e => b c o n (a c o n e)
theorem Chg.s (h : Chg p H H') (m : p ∈ S) : ChgS S H H' := fun b o n e => h b o (fun z => n (z ▸ m)) e
theorem Same.s (h : Same H H') : ChgS S H H' := fun b o _ e => h b o e
theorem ChgS.mono {T : List Addr} (h : ChgS S H H') (m : ∀ b ∈ S, b ∈ T) : ChgS T H H' := fun b o n e => h b o (fun z => n (m b z)) e
theorem ChgS.new (a : ChgS S H H1) (n : H1 q = none) : ChgS S H (upd H1 q o) := fun b u m e => by
  rw [upd_ne (ne_of_none (a b u m e) n)]; exact a b u m e
theorem ChgS.mut (a : ChgS S H H1) (n : H q = none) : ChgS S H (upd H1 q o) := fun b u m e => by
  rw [upd_ne (ne_of_none e n)]; exact a b u m e
theorem ChgS.put (a : ChgS S H H1) (m : q ∈ S) : ChgS S H (upd H1 q o) := fun b u n e => by
  have nb : b ≠ q := fun z => n (by rw [z]; exact m)
  rw [upd_ne nb]; exact a b u n e
/-- what is new behind was new ahead -/
theorem ChgS.back (a : ChgS S H H1) (n : H1 q = none) (m : q ∉ S) : H q = none := by
  cases e : H q with
  | none => rfl
  | some u => rw [a q u m e] at n; cases n
theorem Chg.back (a : Chg p H H1) (n : H1 q = none) (m : q ≠ p) : H q = none := by
  cases e : H q with
  | none => rfl
  | some u => rw [a q u m e] at n; cases n
theorem PotAt.keepS {n : Nat} (h : PotAt n H p) (s : ChgS S H H') (m : p ∉ S) : PotAt n H' p := by
  obtain ⟨xs, e, h⟩ := h
  exact ⟨xs, s _ _ m e, h⟩
end
/-! ### lists of ints -/
section
variable {K : PySem.W.Frag} {H : Hp}
theorem dps_ints : ∀ ns : List Int, DpAll K H (ns.map V.int) (ns.map PyData.int)
  | [] => .nil
  | n :: r => .cons (.int n) (dps_ints r)
theorem dp_ints {a : Addr} {ns : List Int} (h : H a = some (.lst (ns.map V.int))) : Dp K H (.ref a) (.list (ns.map PyData.int)) := .lst (SqL.of h) (dps_ints ns)
theorem lay_ints : ∀ ns : List Int, PyData.canLayAll0 (ns.map PyData.int) = true
  | [] => by simp [PyData.canLayAll0]
  | n :: r => by simp [PyData.canLayAll0, PyData.canLay0, lay_ints r]
theorem deep_ints : ∀ ns : List Int, PyData.depthAll (ns.map PyData.int) = 0
  | [] => by simp [PyData.depthAll]
  | n :: r => by simp [PyData.depthAll, PyData.depth, deep_ints r]
theorem shaped_ints (ns : List Int) : SeqAt.shaped (.list (ns.map PyData.int)) = true := by
  show ((PyData.list (ns.map PyData.int)).canLay0 && decide ((PyData.list (ns.map PyData.int)).depth ≤ 64)) = true
  simp [PyData.canLay0, PyData.depth, lay_ints, deep_ints]
theorem flat_ints : ∀ ns : List Int, (ns.map V.int).all flatV = true
  | [] => rfl
  | n :: r => by simp [flatV, flat_ints r]
theorem inV_ints (v : Int) : ∀ ns : List Int, inV (.int v) (ns.map V.int) = decide (v ∈ ns)
  | [] => by simp [inV]
  | n :: r => by
    have ih := inV_ints v r
    unfold inV at ih ⊢
    rw [List.map_cons, List.any_cons, ih]
    show ((n == v) || decide (v ∈ r)) = decide (v ∈ n :: r)
    by_cases e : n = v
    · subst e; simp
    · have e' : ¬ v = n := fun z => e z.symm
      simp [e, e']
theorem at_ints {ns : List Int} {d : Int} (h0 : 0 ≤ d) (h1 : d < ns.length) : ∃ v, v ∈ ns ∧ atI (ns.map V.int) d = some (.int v) := by
  have hk : d.toNat < ns.length := by omega
  have ek : d = ((d.toNat : Nat) : Int) := by omega
  refine ⟨ns[d.toNat], List.getElem_mem hk, ?_⟩
  have q : atI (ns.map V.int) ((d.toNat : Nat) : Int) = some (.int ns[d.toNat]) := atI_nat (by rw [List.getElem?_map, List.getElem?_eq_getElem hk] <;> rfl)
  rw [← ek] at q
  exact q
end
/-! ### how long a repr is -/
mutual
def cost : PyData → Nat
  | .none => 4
  | .bool _ => 5
  | .int _ => 1921
  | .str x => 10 * x.length + 2
  | .list xs => 2 + costs xs
  | .tuple xs => 4 + costs xs
  | .dict _ => 0
def costs : List PyData → Nat
  | [] => 0
  | x :: xs => cost x + 2 + costs xs
end
theorem from_le : ∀ (ts : List Str) (k : Nat) (acc : Str), (textFrom k acc ts).length ≤ acc.length + (ts.map fun t => t.length + 2).sum
  | [], k, acc => by show acc.length ≤ _; simp
  | t :: r, k, acc => by
    have ih := from_le r (k + 1) (acc ++ (if k > 0 then ", " else "" : String) ++ t)
    show (textFrom (k + 1) _ r).length ≤ _
    rw [List.map_cons, List.sum_cons]
    rw [Str.length_append, Str.length_append] at ih
    have sep : (Str.ofString (if k > 0 then ", " else "")).length ≤ 2 := by split <;> decide
    omega
theorem join_le : ∀ ts : List Str, (Str.join ", " ts).length ≤ (ts.map fun t => t.length + 2).sum
  | [] => by decide
  | [x] => by show x.length ≤ _; simp
  | x :: y :: r => by
    have ih := join_le (y :: r)
    show (x ++ (", " : Str) ++ Str.join ", " (y :: r)).length ≤ _
    rw [Str.length_append, Str.length_append, List.map_cons, List.sum_cons]
    have : (", " : Str).length = 2 := by decide
    omega
theorem small_cps {x : Str} (h : PyData.strOk x = true) : ∀ c ∈ x.cps.toList, c < 16 ^ 8 := fun c hc => by
  unfold PyData.strOk at h
  rw [Array.all_eq_true_iff_forall_mem] at h
  have := of_decide_eq_true (h c (Array.mem_toList_iff.mp hc))
  omega
mutual
theorem shown_le : ∀ d : PyData, d.showable = true → d.canLay0 = true → d.shown.length ≤ cost d
  | .none, _, _ => by show (("None" : Str)).length ≤ 4; decide
  | .bool b, _, _ => by cases b <;> (simp only [PyData.shown, cost]; decide)
  | .int i, h, _ => by
    simp only [PyData.shown, cost]
    exact int_text_len_1921 (by simpa [PyData.showable] using h)
  | .str x, _, h => by
    simp only [PyData.shown, cost]
    exact StrLaws.reprText_len x (small_cps (by simpa [PyData.canLay0] using h))
  | .list xs, h, l => by
    have ih := shown_les xs (by simpa [PyData.showable] using h) (by simpa [PyData.canLay0] using l)
    simp only [PyData.shown, cost]
    show (textFrom 0 "[" (PyData.shownAll xs) ++ ("]" : Str)).length ≤ _
    have := from_le (PyData.shownAll xs) 0 "["
    have a : ("[" : Str).length = 1 := by decide
    have b : ("]" : Str).length = 1 := by decide
    rw [Str.length_append]
    omega
  | .tuple xs, h, l => by
    have ih := shown_les xs (by simpa [PyData.showable] using h) (by simpa [PyData.canLay0] using l)
    simp only [PyData.shown, cost]
    show (("(" : Str) ++ Str.join ", " (PyData.shownAll xs) ++ (Str.ofString (if (PyData.shownAll xs).length == 1 then ",)" else ")"))).length ≤ _
    have := join_le (PyData.shownAll xs)
    have a : ("(" : Str).length = 1 := by decide
    have b : (Str.ofString (if (PyData.shownAll xs).length == 1 then ",)" else ")")).length ≤ 2 := by split <;> decide
    rw [Str.length_append, Str.length_append]
    omega
  | .dict _, _, h => by simp [PyData.canLay0] at h
theorem shown_les : ∀ ds : List PyData, PyData.showableAll ds = true → PyData.canLayAll0 ds = true → ((PyData.shownAll ds).map fun t => t.length + 2).sum ≤ costs ds
  | [], _, _ => Nat.le_refl _
  | d :: ds, h, l => by
    simp only [PyData.showableAll, Bool.and_eq_true] at h
    simp only [PyData.canLayAll0, Bool.and_eq_true] at l
    have h1 := shown_le d h.1 l.1
    have h2 := shown_les ds h.2 l.2
    simp only [PyData.shownAll, costs, List.map_cons, List.sum_cons]
    omega
end

end G0
namespace G0
open PySem PySem.Spec PyProof.Rows L2
def top (i : Nat) : Stmt := PySem.Challenge.pw_soleseat_k57_falls_bar.main.body.getD i (.Pass ⟨0, 0, 0, 0⟩)
abbrev s_NoSeat__init : Stmt := inClass (top 2) 0
abbrev s_is_below : Stmt := top 4
abbrev s_look_at_seat : Stmt := top 7
abbrev s_NoFamily__init : Stmt := inClass (top 9) 0
abbrev s_TooMany__init : Stmt := inClass (top 10) 0
abbrev s_fault : Stmt := top 13
abbrev s_looked : Stmt := top 14
abbrev s_set_fault : Stmt := top 15
abbrev s_barred : Stmt := top 17
abbrev s_law_wide : Stmt := top 19
abbrev s_law_take : Stmt := top 20
abbrev s_law_set : Stmt := top 21
abbrev s_law_many_seats : Stmt := top 22
abbrev s_law_family : Stmt := top 23
abbrev s_law_whole : Stmt := top 24
abbrev s_law_is_set : Stmt := top 25
abbrev s_law_due : Stmt := top 26
abbrev s_law_right : Stmt := top 27
abbrev s_law : Stmt := top 28
theorem u64 {k : Nat} {A : Around} (hr : Room k A) : A.units + 64 < cLine := by have := hr.un; omega
theorem u65 {k : Nat} {A : Around} (hr : Room k A) : A.units + 65 < cLine := by have := hr.un; omega
theorem dec_ii {a b : Int} : decide (V.int a = V.int b) = decide (a = b) := decide_eq_decide.mpr ⟨fun h => by cases h; rfl, fun h => by rw [h]⟩
section
variable {P : Program} {w : World} {K : PySem.W.Frag} {mg : Str → Option Value} {base : Heap}
/-! ### the feed of k47 to k60 -/
structure BlF (mg : Str → Option Value) : Prop where
  len : mg "len" = none
  range : mg "range" = none
  sum : mg "sum" = none
  sorted : mg "sorted" = none
  set : mg "set" = none
  tuple : mg "tuple" = none
  list : mg "list" = none
  isinstance : mg "isinstance" = none
  int : mg "int" = none
  bool : mg "bool" = none
  min : mg "min" = none
  all : mg "all" = none
  enumerate : mg "enumerate" = none
def FeedL (n : Nat) (xs : List V) : Prop := ∃ (i : Nat) (v : Int), xs = [.int (i : Int), .int v] ∧ i ≤ n ∧ 0 ≤ v
/-- the script and the pot that is drawn from -/
structure Fd (K : PySem.W.Frag) (H0 : Hp) (s p : Addr) (ns : List Int) (n : Nat) (H : Hp) : Prop where
  old : Same H0 H
  np : H0 p = none
  sq : SqL K H0 s (ns.map V.int)
  at_ : ∃ xs, H p = some (.lst xs) ∧ FeedL n xs
theorem Fd.same {H0 H H' : Hp} {s p : Addr} {ns : List Int} {n : Nat} (F : Fd K H0 s p ns n H) (c : Same H H') : Fd K H0 s p ns n H' :=
  { F with old := F.old.trans c, at_ := by obtain ⟨xs, e, f⟩ := F.at_; exact ⟨xs, c _ _ e, f⟩ }
theorem Fd.mono {H0 H : Hp} {s p : Addr} {ns : List Int} {n m : Nat} (F : Fd K H0 s p ns n H) (le : n ≤ m) : Fd K H0 s p ns m H :=
  { F with at_ := by obtain ⟨xs, e, i, v, f1, f2, f3⟩ := F.at_; exact ⟨xs, e, i, v, f1, Nat.le_trans f2 le, f3⟩ }
theorem Fd.lst {H0 H : Hp} {s p : Addr} {ns : List Int} {n : Nat} (F : Fd K H0 s p ns n H) : ∃ xs, H p = some (.lst xs) := by
  obtain ⟨xs, e, _⟩ := F.at_
  exact ⟨xs, e⟩
theorem Fd.put {H0 H : Hp} {s p : Addr} {ns : List Int} {n m : Nat} {ys : List V} (F : Fd K H0 s p ns n H) (y : FeedL m ys) : Fd K H0 s p ns m (upd H p (.lst ys)) :=
  { F with old := fun b o e => (upd_ne (ne_of_none e F.np)).trans (F.old _ _ e), at_ := ⟨ys, upd_same, y⟩ }
theorem Fd.ne {H0 H : Hp} {s p q : Addr} {ns : List Int} {n : Nat} (F : Fd K H0 s p ns n H) (h : H q = none) : q ≠ p := by
  obtain ⟨xs, e⟩ := F.lst
  exact (ne_of_none e h).symm
/-- elsewhere a list is written that was not there at first -/
theorem Fd.mut {H0 H : Hp} {s p q : Addr} {ns : List Int} {n : Nat} {o : HO} (F : Fd K H0 s p ns n H) (h : H0 q = none) (d : q ≠ p) : Fd K H0 s p ns n (upd H q o) :=
  { F with old := fun b x e => (upd_ne (ne_of_none e h)).trans (F.old _ _ e), at_ := by obtain ⟨xs, e, f⟩ := F.at_; exact ⟨xs, (upd_ne d.symm).trans e, f⟩ }
/-! ### _law_wide -/
def spWide : Sp := fun vs H Q _ => ∃ c : Int, vs = [.int c] ∧ ∀ v : Int, 0 ≤ v → Q (.int v) H
theorem sc_law_wide : FnScope ["cell", "one", "other", "third"] ["cell"] (defScope s_law_wide) :=
  ⟨rfl, rfl, rfl, by decide +kernel, rfl, by decide +kernel, by decide +kernel⟩
theorem ok_wide (F : Fn K mg "_law_wide" s_law_wide) : Cal P w K mg base "_law_wide" 1 ["cell"] spWide := by
  refine cal_of F sc_law_wide
    (fun _ _ _ _ _ _ us hl => match us, hl with | [_], _ => rfl) ?_ ?_
  · rintro vs H Q E ⟨c, rfl, _⟩
    rfl
  rintro f cdv A outer s H vs Q E free hr ⟨c, rfl, q⟩
  refine ⟨_, (pss_cons (ps_if (pt_cmpR op_ge (pv 0) (pe_op op_pow pe_int pe_int) (nomark _))
    (pss_one (ps_ret (pv 0)))
    pss_nil)
    (pss_cons (ps_set (i := 1) sc_law_wide.nd rfl (Or.inl rfl) (pe_op op_mod (pe_op op_add (pe_op op_mul (pv 0) pe_int) pe_int) pe_int))
    (pss_cons (ps_set (i := 2) sc_law_wide.nd rfl (Or.inl rfl) (pe_op op_mod (pe_op op_add (pe_op op_add (pe_op op_mul (pv 1) (pv 1)) (pe_op op_mul (pv 0) pe_int)) pe_int) pe_int))
    (pss_cons (ps_set (i := 3) sc_law_wide.nd rfl (Or.inl rfl) (pe_op op_mod (pe_op op_add (pe_op op_mul (pv 2) (pv 2)) (pv 1)) pe_int))
    (pss_one (ps_ret (pe_op op_add (pe_op op_fdivW (pv 1) pe_int) (pe_op op_mul pe_int (pe_op op_add (pe_op op_fdivW (pv 2) pe_int) (pe_op op_mul pe_int (pe_op op_fdivW (pv 3) pe_int))))))))))), ?_⟩
  refine ⟨_, rfl, _, _, rfl, rfl, ⟨by decide, by decide, by decide⟩, _, _, rfl, rfl, _, rfl, ?_⟩
  refine ite2 (fun c1 => ?_) (fun c1 => ?_)
  · have c2 : 10 ^ (Int.toNat 18) ≤ c := of_decide_eq_true c1
    have c3 : (0 : Int) ≤ 10 ^ (Int.toNat 18) := by decide
    exact ⟨_, rfl, q _ (by omega)⟩
  · have m1 : (0 : Int) < 2147483647 := by decide
    have m2 : (0 : Int) < 2147483629 := by decide
    have m3 : (0 : Int) < 1000000007 := by decide
    refine ⟨_, rfl, _, _, rfl, rfl, .inr ⟨by decide, by decide⟩, _, _, rfl, rfl, _, _, rfl, rfl, m1, ?_⟩
    generalize h1 : (c * 48271 + 12345) % 2147483647 = one
    have a1 : 0 ≤ one := by rw [← h1]; exact Int.emod_nonneg _ (by decide)
    have b1 : one < 2147483647 := by rw [← h1]; exact Int.emod_lt_of_pos _ (by decide)
    refine ⟨_, rfl, _, rfl, _, _, rfl, rfl, .inl ⟨by omega, by omega⟩, _, rfl, _, _, rfl, rfl, .inr ⟨by decide, by decide⟩, _, _, rfl, rfl, _, _, rfl, rfl, _, _, rfl, rfl, m2, ?_⟩
    generalize h2 : (one * one + c * 69621 + 7) % 2147483629 = other
    have a2 : 0 ≤ other := by rw [← h2]; exact Int.emod_nonneg _ (by decide)
    have b2 : other < 2147483629 := by rw [← h2]; exact Int.emod_lt_of_pos _ (by decide)
    refine ⟨_, rfl, _, rfl, _, _, rfl, rfl, .inl ⟨by omega, by omega⟩, _, rfl, _, _, rfl, rfl, _, _, rfl, rfl, m3, ?_⟩
    generalize h3 : (other * other + one) % 1000000007 = third
    have a3 : 0 ≤ third := by rw [← h3]; exact Int.emod_nonneg _ (by decide)
    have b3 : third < 1000000007 := by rw [← h3]; exact Int.emod_lt_of_pos _ (by decide)
    have d8 : ∀ x : Int, CDivW x 8 := fun x => ⟨by decide, by decide⟩
    have e1 : 0 ≤ one / 8 := Int.ediv_nonneg a1 (by decide)
    have e2 : 0 ≤ other / 8 := Int.ediv_nonneg a2 (by decide)
    have e3 : 0 ≤ third / 8 := Int.ediv_nonneg a3 (by decide)
    refine ⟨_, rfl, _, _, rfl, rfl, d8 _, _, rfl, _, _, rfl, rfl, d8 _, _, rfl, _, _, rfl, rfl, d8 _, _, _, rfl, rfl, .inl ⟨by decide, by decide⟩, _, _, rfl, rfl, _, _, rfl, rfl, .inl ⟨by decide, by decide⟩, _, _, rfl, rfl, q _ (by omega)⟩
/-! ### _law_take -/
def spTake (K : PySem.W.Frag) : Sp := fun vs H Q _ => ∃ (H0 : Hp) (s p : Addr) (ns : List Int) (n : Nat) (m : Int), vs = [.ref s, .ref p, .int m] ∧ Fd K H0 s p ns n H ∧ n < 1000000000 ∧ 0 < m ∧ m.natAbs < 2 ^ 250 ∧
  ∀ (d : Int) (ys : List V), 0 ≤ d → d < m → FeedL (n + 1) ys → Q (.int d) (upd H p (.lst ys))
theorem sc_law_take : FnScope ["script", "pot", "many", "cell", "found"] ["script", "pot", "many"] (defScope s_law_take) :=
  ⟨rfl, rfl, rfl, by decide +kernel, rfl, by decide +kernel, by decide +kernel⟩
theorem ok_take (F : Fn K mg "_law_take" s_law_take) (T : BlF mg) (C_wide : Cal P w K mg base "_law_wide" 1 ["cell"] spWide) : Cal P w K mg base "_law_take" 2 ["script", "pot", "many"] (spTake K) := by
  refine cal_of F sc_law_take
    (fun _ _ _ _ _ _ us hl => match us, hl with | [_, _, _], _ => rfl) ?_ ?_
  · rintro vs H Q E ⟨H0, s, p, ns, n, m, rfl, _⟩
    rfl
  rintro f cdv A outer s' H vs Q E free hr ⟨H0, s, p, ns, n, m, rfl, D, nb, m0, mb, q⟩
  refine ⟨_, (pss_cons (ps_if (pt_cmpR op_eq (pe_ix ix_list (pv 1) pe_int (fun _ _ => rfl)) pe_int (nomark _))
    (pss_cons (ps_set (i := 3) sc_law_take.nd rfl (Or.inl rfl) (pe_op op_mul (pe_op op_add (pe_op op_mod (pe_callB (cr_sum (by rfl)) (by rfl) T.sum (by decide +kernel) (pa_cons (pv 0) pa_nil)) pe_int) pe_int) (pe_op op_add (pe_ix ix_list (pv 1) pe_int (fun _ _ => rfl)) pe_int)))
    (pss_cons (ps_if (pt_cmpR op_lt (pe_ix ix_list (pv 1) pe_int (fun _ _ => rfl)) (pe_callB call_len_seq (by rfl) T.len (by decide +kernel) (pa_cons (pv 0) pa_nil)) (nomark _))
    (pss_one (ps_set (i := 3) sc_law_take.nd rfl (Or.inl rfl) (pe_ix ix_list (pv 0) (pe_ix ix_list (pv 1) pe_int (fun _ _ => rfl)) (fun _ _ => rfl))))
    pss_nil)
    (pss_cons (ps_asg (pe_op op_add (pe_ix ix_list (pv 1) pe_int (fun _ _ => rfl)) pe_int) (pg_sub (pv 1) pe_int set_list))
    (pss_one (ps_asg (pe_cal C_wide free (hr.mono (by decide)) (pa_cons (pv 3) pa_nil)) (pg_sub (pv 1) pe_int set_list))))))
    pss_nil)
    (pss_cons (ps_set (i := 4) sc_law_take.nd rfl (Or.inl rfl) (pe_op op_mod (pe_ix ix_list (pv 1) pe_int (fun _ _ => rfl)) (pv 2)))
    (pss_cons (ps_asg (pe_op op_fdivW (pe_ix ix_list (pv 1) pe_int (fun _ _ => rfl)) (pv 2)) (pg_sub (pv 1) pe_int set_list))
    (pss_one (ps_ret (pv 4)))))), ?_⟩
  obtain ⟨xs, hp, i, v, rfl, il, v0⟩ := D.at_
  have hS := D.old.seq D.sq
  have dv : ∀ x : Int, CDivW x m := fun x => wide_div m0 mb (by decide) (by decide)
  have hl : (ns.map V.int).length = ns.length := List.length_map _
  refine ⟨_, rfl, p, _, _, _, rfl, rfl, SqL.of hp, rfl, rfl, _, rfl, ?_⟩
  rw [dec_ii]
  refine ite2 (fun c1 => ?_) (fun c1 => ?_)
  · refine ⟨_, rfl, s, ns, rfl, hS, ?_⟩
    generalize ns.sum = su
    refine ⟨_, _, rfl, rfl, (by show (0 : Int) < 1000003; decide), _, _, rfl, rfl, _, rfl, p, _, _, _, rfl, rfl, SqL.of hp, rfl, _, _, rfl, rfl, _, _, rfl, rfl, .inl ⟨by omega, by omega⟩, ?_⟩
    refine ⟨_, rfl, p, _, _, _, rfl, rfl, SqL.of hp, rfl, _, rfl, s, _, rfl, .inl hS, _, _, rfl, rfl, _, rfl, ?_⟩
    refine ite2 (fun c2 => ?_) (fun c2 => ?_)
    · have c' : (i : Int) < (((ns.map V.int).length : Nat) : Int) := of_decide_eq_true c2
      have hi : i < ns.length := by omega
      refine ⟨_, rfl, _, rfl, p, _, _, _, rfl, rfl, SqL.of hp, rfl, s, _, _, _, rfl, rfl, hS, atI_nat (v := .int ns[i]) (by rw [List.getElem?_map, List.getElem?_eq_getElem hi]; rfl), ?_⟩
      refine ⟨_, rfl, p, _, _, _, rfl, rfl, SqL.of hp, rfl, _, _, rfl, rfl, _, rfl, p, _, _, _, rfl, rfl, hp, rfl, ?_⟩
      refine ⟨_, rfl, _, rfl, fun v1 v10 => ?_⟩
      refine ⟨_, rfl, p, _, _, _, rfl, rfl, upd_same, rfl, ?_⟩
      rw [upd_upd]
      have hp1 : upd H p (.lst [.int ((i : Int) + 1), .int v1]) p = some (.lst [.int ((i : Int) + 1), .int v1]) := upd_same
      refine ⟨_, rfl, p, _, _, _, rfl, rfl, SqL.of hp1, rfl, _, rfl, _, _, rfl, rfl, m0, ?_⟩
      refine ⟨_, rfl, p, _, _, _, rfl, rfl, SqL.of hp1, rfl, _, rfl, _, _, rfl, rfl, dv _, _, rfl, p, _, _, _, rfl, rfl, hp1, rfl, ?_⟩
      rw [upd_upd]
      refine ⟨_, rfl, q _ _ (Int.emod_nonneg _ (by omega)) (Int.emod_lt_of_pos _ m0) ⟨i + 1, v1 / m, ?_, by omega, Int.ediv_nonneg v10 (by omega)⟩⟩
      rw [Int.natCast_add]
      rfl
    · skip
      refine ⟨_, rfl, p, _, _, _, rfl, rfl, SqL.of hp, rfl, _, _, rfl, rfl, _, rfl, p, _, _, _, rfl, rfl, hp, rfl, ?_⟩
      refine ⟨_, rfl, _, rfl, fun v1 v10 => ?_⟩
      refine ⟨_, rfl, p, _, _, _, rfl, rfl, upd_same, rfl, ?_⟩
      rw [upd_upd]
      have hp1 : upd H p (.lst [.int ((i : Int) + 1), .int v1]) p = some (.lst [.int ((i : Int) + 1), .int v1]) := upd_same
      refine ⟨_, rfl, p, _, _, _, rfl, rfl, SqL.of hp1, rfl, _, rfl, _, _, rfl, rfl, m0, ?_⟩
      refine ⟨_, rfl, p, _, _, _, rfl, rfl, SqL.of hp1, rfl, _, rfl, _, _, rfl, rfl, dv _, _, rfl, p, _, _, _, rfl, rfl, hp1, rfl, ?_⟩
      rw [upd_upd]
      refine ⟨_, rfl, q _ _ (Int.emod_nonneg _ (by omega)) (Int.emod_lt_of_pos _ m0) ⟨i + 1, v1 / m, ?_, by omega, Int.ediv_nonneg v10 (by omega)⟩⟩
      rw [Int.natCast_add]
      rfl
  · refine ⟨_, rfl, p, _, _, _, rfl, rfl, SqL.of hp, rfl, _, rfl, _, _, rfl, rfl, m0, ?_⟩
    refine ⟨_, rfl, p, _, _, _, rfl, rfl, SqL.of hp, rfl, _, rfl, _, _, rfl, rfl, dv _, _, rfl, p, _, _, _, rfl, rfl, hp, rfl, ?_⟩
    exact ⟨_, rfl, q _ _ (Int.emod_nonneg _ (by omega)) (Int.emod_lt_of_pos _ m0) ⟨i, _, rfl, by omega, Int.ediv_nonneg v0 (by omega)⟩⟩
end

end G0
namespace G0
open PySem PySem.Spec PyProof.Rows L2
theorem lc_yes {te : TE} {σ : L2.St} {H : Hp} {Q : VK} {B : Hp → Prop} (h : te σ H Q) : tYes σ H (fun b H3 => if b = true then te σ H3 Q else B H3) := by
  show (if true = true then te σ H Q else B H)
  exact iteT h
/-! ### sets of seats -/
def tuD (n : List Int) : PyData := .tuple (n.map PyData.int)
theorem eqv_is : ∀ a b : List Int, PyData.eqvAll (a.map PyData.int) (b.map PyData.int) = decide (a = b)
  | [], [] => by simp [PyData.eqvAll]
  | [], _ :: _ => by simp [PyData.eqvAll]
  | _ :: _, [] => by simp [PyData.eqvAll]
  | x :: a, y :: b => by
    have ih := eqv_is a b
    simp only [List.map_cons, PyData.eqvAll, PyData.eqv, ih]
    by_cases e : x = y
    · subst e; simp
    · simp [e]
theorem eqv_tu (a b : List Int) : PyData.eqv (tuD a) (tuD b) = decide (a = b) := by
  simp only [tuD, PyData.eqv]
  exact eqv_is a b
theorem eqv_tus : ∀ A B : List (List Int), PyData.eqvAll (A.map tuD) (B.map tuD) = decide (A = B)
  | [], [] => by simp [PyData.eqvAll]
  | [], _ :: _ => by simp [PyData.eqvAll]
  | _ :: _, [] => by simp [PyData.eqvAll]
  | x :: a, y :: b => by
    have ih := eqv_tus a b
    simp only [List.map_cons, PyData.eqvAll, eqv_tu, ih]
    by_cases e : x = y
    · subst e; simp
    · simp [e]
theorem lay_tus : ∀ L : List (List Int), PyData.canLayAll0 (L.map tuD) = true
  | [] => by simp [PyData.canLayAll0]
  | n :: L => by simp [PyData.canLayAll0, PyData.canLay0, tuD, lay_ints n, lay_tus L]
theorem deep_tus : ∀ L : List (List Int), PyData.depthAll (L.map tuD) ≤ 1
  | [] => by simp [PyData.depthAll]
  | n :: L => by
    have := deep_tus L
    simp [PyData.depthAll, PyData.depth, tuD, deep_ints n]
    omega
theorem shaped_tu (n : List Int) : SeqAt.shaped (tuD n) = true := by
  show ((tuD n).canLay0 && decide ((tuD n).depth ≤ 64)) = true
  simp [tuD, PyData.canLay0, PyData.depth, lay_ints, deep_ints]
theorem shaped_tus (L : List (List Int)) : SeqAt.shaped (.list (L.map tuD)) = true := by
  show ((PyData.list (L.map tuD)).canLay0 && decide ((PyData.list (L.map tuD)).depth ≤ 64)) = true
  have := deep_tus L
  simp [PyData.canLay0, PyData.depth, lay_tus]
  omega
/-- well: not empty, rising, of seats -/
structure SetOk (n : Int) (ns : List Int) : Prop where
  ne : ns ≠ []
  up : ns.Pairwise (· < ·)
  low : ∀ x ∈ ns, 0 ≤ x ∧ x < n
  few : ns.length ≤ 10
def refs (ks : List (Addr × List Int)) : List V := ks.map fun p => V.ref p.1
def worth (ks : List (Addr × List Int)) : List (List Int) := ks.map fun p => p.2
/-- a list of tuples of ints stands at l -/
structure Fam (K : PySem.W.Frag) (H : Hp) (l : Addr) (ks : List (Addr × List Int)) : Prop where
  at_ : H l = some (.lst (refs ks))
  tups : ∀ p ∈ ks, SqT K H p.1 (p.2.map V.int)
structure FamOk (n : Int) (ks : List (Addr × List Int)) : Prop where
  well : ∀ p ∈ ks, SetOk n p.2
  nd : (worth ks).Nodup
section
variable {P : Program} {w : World} {K : PySem.W.Frag} {mg : Str → Option Value} {base : Heap}
theorem dps_tups {H : Hp} : ∀ {ks : List (Addr × List Int)}, (∀ p ∈ ks, SqT K H p.1 (p.2.map V.int)) → DpAll K H (refs ks) ((worth ks).map tuD)
  | [], _ => .nil
  | p :: ks, h => .cons (.tup (h p (List.mem_cons_self ..)) (dps_ints p.2)) (dps_tups fun q m => h q (List.mem_cons_of_mem _ m))
theorem Fam.dp {H : Hp} {l : Addr} {ks : List (Addr × List Int)} (F : Fam K H l ks) : Dp K H (.ref l) (.list ((worth ks).map tuD)) := .lst (SqL.of F.at_) (dps_tups F.tups)
theorem Fam.same {H H' : Hp} {l : Addr} {ks : List (Addr × List Int)} (F : Fam K H l ks) (c : Same H H') : Fam K H' l ks := ⟨c _ _ F.at_, fun p m => sqt_same c (F.tups p m)⟩
theorem Fam.chg {H H' : Hp} {l p : Addr} {ks : List (Addr × List Int)} (F : Fam K H l ks) (hp : ∃ xs, H p = some (.lst xs)) (c : Chg p H H') (d : l ≠ p) : Fam K H' l ks := ⟨c _ _ d F.at_, fun q m => sqt_chg hp c (F.tups q m)⟩
theorem any_tu (A : List (List Int)) (b : List Int) : ((A.map tuD).any fun z => PyData.eqv z (tuD b)) = decide (b ∈ A) := by
  rw [List.any_map]
  induction A with
  | nil => simp
  | cons a A ih =>
    rw [List.any_cons, ih]
    show (PyData.eqv (tuD a) (tuD b) || _) = _
    rw [eqv_tu]
    by_cases e : a = b
    · subst e; simp
    · have e' : ¬ b = a := fun z => e z.symm
      simp [e, e']
/-! ### _law_set -/
theorem wide12 {m : Int} (h0 : 0 < m) (h : m < 1000) : m.natAbs < 2 ^ 250 := Nat.lt_of_lt_of_le (show m.natAbs < 1000 by omega) (by decide)
def spLSet (K : PySem.W.Frag) : Sp := fun vs H Q _ => ∃ (H0 : Hp) (s p : Addr) (ns : List Int) (n : Nat) (m : Int), vs = [.ref s, .ref p, .int m] ∧ Fd K H0 s p ns n H ∧ n < 100000000 ∧ 0 < m ∧ m ≤ 60 ∧
  ∀ (t : Addr) (us : List Int) H', H t = none → Fd K H0 s p ns (n + 20) H' → Chg p H H' → SqT K H' t (us.map V.int) → SetOk m us → Q (.ref t) H'
theorem sc_law_set : FnScope ["script", "pot", "seats", "found", "seat", "k"] ["script", "pot", "seats"] (defScope s_law_set) :=
  ⟨rfl, rfl, rfl, by decide +kernel, rfl, by decide +kernel, by decide +kernel⟩
theorem ok_set (F : Fn K mg "_law_set" s_law_set) (T : BlF mg) (C_take : Cal P w K mg base "_law_take" 2 ["script", "pot", "many"] (spTake K)) : Cal P w K mg base "_law_set" 3 ["script", "pot", "seats"] (spLSet K) := by
  refine cal_of F sc_law_set
    (fun _ _ _ _ _ _ us hl => match us, hl with | [_, _, _], _ => rfl) ?_ ?_
  · rintro vs H Q E ⟨H0, s, p, ns, n, m, rfl, _⟩
    rfl
  rintro f cdv A outer s' H vs Q E free hr ⟨H0, s, p, ns, n, m, rfl, D, nb, m0, mb, q⟩
  refine ⟨_, (pss_cons (ps_set (i := 3) sc_law_set.nd rfl (Or.inl rfl) (pe_lst pa_nil))
    (pss_cons (ps_if (PW.pt (pw_and (pt_cmpR op_lt (pv 2) pe_int (nomark _)) (pw_and1 (pt_cmpR op_lt (pe_cal C_take free (hr.mono (by decide)) (pa_cons (pv 0) (pa_cons (pv 1) (pa_cons pe_int pa_nil)))) pe_int (nomark _)))))
    (pss_one (ps_setLc (i := 3) (own := [("seat", 4)]) (g := gName 4)  (by rfl) sc_law_set.nd rfl rfl (sw_true rfl rfl rfl (by decide +kernel)) (pi_range1 (by rfl) T.range (pa_cons (pv 2) pa_nil)) (blkOk_by (N := ["script", "pot", "seats", "found", "seat", "k"]) (sc := defScope s_law_set) (by decide +kernel)) (fun _ _ _ _ _ => pg_name (i := 4) sc_law_set.nd rfl (Or.inl rfl)) (fun _ _ _ _ _ => pts_one (pt_cmpR op_eq (pe_cal C_take free (hr.mono (by decide)) (pa_cons (pv 0) (pa_cons (pv 1) (pa_cons pe_int pa_nil)))) pe_int (nomark _))) (fun _ _ _ _ _ => (pv 4))))
    (pss_one (ps_setLc (i := 3) (own := [("k", 5)]) (g := gName 5) (tt := tYes) (by rfl) sc_law_set.nd rfl rfl (sw_true rfl rfl rfl (by decide +kernel)) (pi_range1 (by rfl) T.range (pa_cons (pe_cal C_take free (hr.mono (by decide)) (pa_cons (pv 0) (pa_cons (pv 1) (pa_cons pe_int pa_nil)))) pa_nil)) (blkOk_by (N := ["script", "pot", "seats", "found", "seat", "k"]) (sc := defScope s_law_set) (by decide +kernel)) (fun _ _ _ _ _ => pg_name (i := 5) sc_law_set.nd rfl (Or.inl rfl)) (fun _ _ _ _ _ => pts_nil) (fun _ _ _ _ _ => (pe_cal C_take free (hr.mono (by decide)) (pa_cons (pv 0) (pa_cons (pv 1) (pa_cons (pv 2) pa_nil))))))))
    (pss_cons (ps_expr (pe_bm PySem.F.plainAttrs_list PySem.F.slot_list_append PySem.F.type_list_append mt_append (pv 3) (pa_cons (pe_cal C_take free (hr.mono (by decide)) (pa_cons (pv 0) (pa_cons (pv 1) (pa_cons (pv 2) pa_nil)))) pa_nil)))
    (pss_one (ps_ret (pe_callTy call_tuple_of (by rfl) T.tuple (by decide +kernel) (pa_cons (pe_callB (cr_sortedSet (by rfl)) (by rfl) T.sorted (by decide +kernel) (pa_cons (pe_callTy (cr_setOfI (by rfl)) (by rfl) T.set (by decide +kernel) (pa_cons (pv 3) pa_nil)) pa_nil)) pa_nil))))))), ?_⟩
  refine ⟨Nat.zero_le _, fun e0 he0 => ?_⟩
  have D0 := D.same (same_upd (o := .lst []) he0)
  refine ⟨_, rfl, _, _, rfl, rfl, _, rfl, ?_⟩
  refine ite2 (fun c1 => ?_) (fun c1 => ?_)
  · have m10 : m < 10 := of_decide_eq_true c1
    refine ⟨_, rfl, _, rfl, H0, s, p, ns, n, 3, rfl, D0, by omega, by decide, by decide, fun d3 y3 d30 d31 Y3 => ?_⟩
    have D3 := D0.put Y3
    have c3 : Chg p H (upd (upd H e0 (.lst [])) p (.lst y3)) := (Chg.same (same_upd he0)).trans Chg.self
    refine ⟨_, _, rfl, rfl, _, rfl, ?_⟩
    refine ite2 (fun c2 => ?_) (fun c2 => ?_)
    · refine ⟨_, rfl, _, rfl, by omega, by omega, fun J hJ => ?_⟩
      have Jne := D3.ne hJ
      have J0 := D3.old.free hJ
      have JH : H J = none := Chg.back c3 hJ Jne
      refine lc_range (lo := 0) (n := m.toNat) (fun i G => ∃ acc : List Int, G J = some (.lst (acc.map V.int)) ∧ acc.length ≤ i ∧ (∀ x ∈ acc, 0 ≤ x ∧ x < m) ∧ Fd K H0 s p ns (n + 1 + i) G ∧ Chg p H G)
        ⟨[], upd_same, Nat.zero_le _, fun x hx => by simp at hx, D3.same (same_upd hJ), c3.trans (Chg.same (same_upd hJ))⟩ ?_ ?_
      · rintro i G hi ⟨acc, kJ, la, low, DG, cG⟩
        refine ⟨rfl, _, rfl, _, rfl, H0, s, p, ns, n + 1 + i, 2, rfl, DG, by omega, by decide, by decide, fun d y d0 d1 Y => ?_⟩
        refine ⟨rfl, _, rfl, ?_⟩
        rw [dec_ii]
        refine ite2 (fun c4 => ?_) (fun c4 => ?_)
        · refine ⟨_, rfl, ?_⟩
          have kJ' := (upd_ne (o := .lst y) Jne).trans kJ
          refine ⟨_, kJ', by rw [List.length_map]; exact Nat.lt_of_lt_of_le (show acc.length < 100 by omega) (by decide), acc ++ [0 + (i : Int)], ?_, by rw [List.length_append, List.length_singleton]; omega, fun x hx => ?_, ((DG.put Y).mono (by omega)).mut J0 Jne, fun b o nb' e => ?_⟩
          · rw [upd_same, List.map_append]; rfl
          · rcases List.mem_append.mp hx with h | h
            · exact low x h
            · rw [List.mem_singleton.mp h]; exact ⟨by omega, by omega⟩
          · rw [upd_ne (ne_of_none e JH), upd_ne nb']
            exact cG b o nb' e
        · exact ⟨acc, (upd_ne Jne).trans kJ, by omega, low, (DG.put Y).mono (by omega), cG.trans Chg.self⟩
      rintro G ⟨acc, kJ, la, low, DG', cG⟩
      have DG := DG'.mono (show n + 1 + m.toNat ≤ n + 15 by omega)
      have lacc : acc.length ≤ 9 := by omega
      refine ⟨_, rfl, .inl ⟨rfl, _, SqL.of kJ⟩, _, rfl, _, rfl, _, rfl, H0, s, p, ns, n + 15, m, rfl, DG, by omega, m0, wide12 m0 (by omega), fun d9 y9 d90 d91 Y9 => ?_⟩
      have Jp : J ≠ p := Jne
      have kJ9 : upd G p (.lst y9) J = some (.lst (acc.map V.int)) := (upd_ne Jp).trans kJ
      refine ⟨J, _, _, rfl, rfl, kJ9, by rw [List.length_map]; exact Nat.lt_of_lt_of_le (show acc.length < 100 by omega) (by decide), ?_⟩
      obtain ⟨G9, hG9⟩ : ∃ G9, G9 = upd (upd G p (.lst y9)) J (.lst (acc.map V.int ++ [.int d9])) := ⟨_, rfl⟩
      rw [← hG9]
      have kJ' : G9 J = some (.lst ((acc ++ [d9]).map V.int)) := by rw [hG9, upd_same, List.map_append]; rfl
      have D9 : Fd K H0 s p ns (n + 20) G9 := by rw [hG9]; exact ((DG.put Y9).mono (by omega)).mut J0 Jp
      have c9 : Chg p H G9 := fun b o nb' e => by rw [hG9, upd_ne (ne_of_none e JH), upd_ne nb']; exact cG b o nb' e
      clear hG9
      refine ⟨_, rfl, J, acc ++ [d9], rfl, SqL.of kJ', by rw [List.length_append, List.length_singleton]; omega, fun sa sc hsa lsc => ?_⟩
      rw [List.length_append, List.length_singleton] at lsc
      refine ⟨sa, _, sc, rfl, upd_same, by omega, fun us la up mem lus hla => ?_⟩
      refine ⟨la, _, rfl, .inl ⟨SqL.of upd_same, fun t ht => ?_⟩⟩
      have s9 := ((same_upd (o := SetO w sa (fun j => decide (j ∈ acc ++ [d9])) sc) hsa).trans (same_upd (o := .lst (us.map V.int)) hla)).trans (same_upd (o := .tup (us.map V.int)) ht)
      have s2 := (same_upd (o := SetO w sa (fun j => decide (j ∈ acc ++ [d9])) sc) hsa).trans (same_upd (o := .lst (us.map V.int)) hla)
      have tH : H t = none := c9.back (s2.free ht) ((D9.same s2).ne ht)
      have mem' : ∀ x, x ∈ us ↔ x ∈ acc ++ [d9] := fun x => by rw [mem x]; simp
      refine q t us _ tH (D9.same s9) (c9.trans (Chg.same s9)) (SqT.of upd_same) ⟨fun z => ?_, up, fun x hx => ?_, by omega⟩
      · have : d9 ∈ us := (mem' d9).mpr (by simp)
        rw [z] at this
        simp at this
      · rcases List.mem_append.mp ((mem' x).mp hx) with h | h
        · exact low x h
        · rw [List.mem_singleton.mp h]; exact ⟨d90, d91⟩
    · skip
      refine ⟨_, rfl, _, rfl, H0, s, p, ns, n + 1, 6, rfl, D3, by omega, by decide, by decide, fun d6 y6 d60 d61 Y6 => ?_⟩
      have D6 := (D3).put Y6
      refine ⟨_, rfl, by omega, by omega, fun J hJ => ?_⟩
      have Jne := D6.ne hJ
      have J0 := D6.old.free hJ
      have JH : H J = none := Chg.back (c3.trans Chg.self) hJ Jne
      refine lc_range (lo := 0) (n := d6.toNat) (fun i G => ∃ acc : List Int, G J = some (.lst (acc.map V.int)) ∧ acc.length ≤ i ∧ (∀ x ∈ acc, 0 ≤ x ∧ x < m) ∧ Fd K H0 s p ns (n + 2 + i) G ∧ Chg p H G)
        ⟨[], upd_same, Nat.zero_le _, fun x hx => by simp at hx, D6.same (same_upd hJ), (c3.trans Chg.self).trans (Chg.same (same_upd hJ))⟩ ?_ ?_
      · rintro i G hi ⟨acc, kJ, la, low, DG, cG⟩
        refine ⟨rfl, lc_yes ?_⟩
        refine ⟨_, rfl, _, rfl, _, rfl, H0, s, p, ns, n + 2 + i, m, rfl, DG, by omega, m0, wide12 m0 (by omega), fun d y d0 d1 Y => ?_⟩
        have kJ' := (upd_ne (o := .lst y) Jne).trans kJ
        refine ⟨_, kJ', by rw [List.length_map]; exact Nat.lt_of_lt_of_le (show acc.length < 100 by omega) (by decide), acc ++ [d], ?_, by rw [List.length_append, List.length_singleton]; omega, fun x hx => ?_, ((DG.put Y).mono (by omega)).mut J0 Jne, fun b o nb' e => ?_⟩
        · rw [upd_same, List.map_append]; rfl
        · rcases List.mem_append.mp hx with h | h
          · exact low x h
          · rw [List.mem_singleton.mp h]; exact ⟨d0, d1⟩
        · rw [upd_ne (ne_of_none e JH), upd_ne nb']
          exact cG b o nb' e
      rintro G ⟨acc, kJ, la, low, DG', cG⟩
      have DG := DG'.mono (show n + 2 + d6.toNat ≤ n + 15 by omega)
      have lacc : acc.length ≤ 9 := by omega
      refine ⟨_, rfl, .inl ⟨rfl, _, SqL.of kJ⟩, _, rfl, _, rfl, _, rfl, H0, s, p, ns, n + 15, m, rfl, DG, by omega, m0, wide12 m0 (by omega), fun d9 y9 d90 d91 Y9 => ?_⟩
      have Jp : J ≠ p := Jne
      have kJ9 : upd G p (.lst y9) J = some (.lst (acc.map V.int)) := (upd_ne Jp).trans kJ
      refine ⟨J, _, _, rfl, rfl, kJ9, by rw [List.length_map]; exact Nat.lt_of_lt_of_le (show acc.length < 100 by omega) (by decide), ?_⟩
      obtain ⟨G9, hG9⟩ : ∃ G9, G9 = upd (upd G p (.lst y9)) J (.lst (acc.map V.int ++ [.int d9])) := ⟨_, rfl⟩
      rw [← hG9]
      have kJ' : G9 J = some (.lst ((acc ++ [d9]).map V.int)) := by rw [hG9, upd_same, List.map_append]; rfl
      have D9 : Fd K H0 s p ns (n + 20) G9 := by rw [hG9]; exact ((DG.put Y9).mono (by omega)).mut J0 Jp
      have c9 : Chg p H G9 := fun b o nb' e => by rw [hG9, upd_ne (ne_of_none e JH), upd_ne nb']; exact cG b o nb' e
      clear hG9
      refine ⟨_, rfl, J, acc ++ [d9], rfl, SqL.of kJ', by rw [List.length_append, List.length_singleton]; omega, fun sa sc hsa lsc => ?_⟩
      rw [List.length_append, List.length_singleton] at lsc
      refine ⟨sa, _, sc, rfl, upd_same, by omega, fun us la up mem lus hla => ?_⟩
      refine ⟨la, _, rfl, .inl ⟨SqL.of upd_same, fun t ht => ?_⟩⟩
      have s9 := ((same_upd (o := SetO w sa (fun j => decide (j ∈ acc ++ [d9])) sc) hsa).trans (same_upd (o := .lst (us.map V.int)) hla)).trans (same_upd (o := .tup (us.map V.int)) ht)
      have s2 := (same_upd (o := SetO w sa (fun j => decide (j ∈ acc ++ [d9])) sc) hsa).trans (same_upd (o := .lst (us.map V.int)) hla)
      have tH : H t = none := c9.back (s2.free ht) ((D9.same s2).ne ht)
      have mem' : ∀ x, x ∈ us ↔ x ∈ acc ++ [d9] := fun x => by rw [mem x]; simp
      refine q t us _ tH (D9.same s9) (c9.trans (Chg.same s9)) (SqT.of upd_same) ⟨fun z => ?_, up, fun x hx => ?_, by omega⟩
      · have : d9 ∈ us := (mem' d9).mpr (by simp)
        rw [z] at this
        simp at this
      · rcases List.mem_append.mp ((mem' x).mp hx) with h | h
        · exact low x h
        · rw [List.mem_singleton.mp h]; exact ⟨d90, d91⟩
  · have D1 := D0.mono (show n ≤ n + 1 by omega)
    have c1' : Chg p H (upd H e0 (.lst [])) := Chg.same (same_upd he0)
    refine iteF' rfl ?_
    refine ⟨_, rfl, _, rfl, H0, s, p, ns, n + 1, 6, rfl, D1, by omega, by decide, by decide, fun d6 y6 d60 d61 Y6 => ?_⟩
    have D6 := (D1).put Y6
    refine ⟨_, rfl, by omega, by omega, fun J hJ => ?_⟩
    have Jne := D6.ne hJ
    have J0 := D6.old.free hJ
    have JH : H J = none := Chg.back (c1'.trans Chg.self) hJ Jne
    refine lc_range (lo := 0) (n := d6.toNat) (fun i G => ∃ acc : List Int, G J = some (.lst (acc.map V.int)) ∧ acc.length ≤ i ∧ (∀ x ∈ acc, 0 ≤ x ∧ x < m) ∧ Fd K H0 s p ns (n + 2 + i) G ∧ Chg p H G)
      ⟨[], upd_same, Nat.zero_le _, fun x hx => by simp at hx, D6.same (same_upd hJ), (c1'.trans Chg.self).trans (Chg.same (same_upd hJ))⟩ ?_ ?_
    · rintro i G hi ⟨acc, kJ, la, low, DG, cG⟩
      refine ⟨rfl, lc_yes ?_⟩
      refine ⟨_, rfl, _, rfl, _, rfl, H0, s, p, ns, n + 2 + i, m, rfl, DG, by omega, m0, wide12 m0 (by omega), fun d y d0 d1 Y => ?_⟩
      have kJ' := (upd_ne (o := .lst y) Jne).trans kJ
      refine ⟨_, kJ', by rw [List.length_map]; exact Nat.lt_of_lt_of_le (show acc.length < 100 by omega) (by decide), acc ++ [d], ?_, by rw [List.length_append, List.length_singleton]; omega, fun x hx => ?_, ((DG.put Y).mono (by omega)).mut J0 Jne, fun b o nb' e => ?_⟩
      · rw [upd_same, List.map_append]; rfl
      · rcases List.mem_append.mp hx with h | h
        · exact low x h
        · rw [List.mem_singleton.mp h]; exact ⟨d0, d1⟩
      · rw [upd_ne (ne_of_none e JH), upd_ne nb']
        exact cG b o nb' e
    rintro G ⟨acc, kJ, la, low, DG', cG⟩
    have DG := DG'.mono (show n + 2 + d6.toNat ≤ n + 15 by omega)
    have lacc : acc.length ≤ 9 := by omega
    refine ⟨_, rfl, .inl ⟨rfl, _, SqL.of kJ⟩, _, rfl, _, rfl, _, rfl, H0, s, p, ns, n + 15, m, rfl, DG, by omega, m0, wide12 m0 (by omega), fun d9 y9 d90 d91 Y9 => ?_⟩
    have Jp : J ≠ p := Jne
    have kJ9 : upd G p (.lst y9) J = some (.lst (acc.map V.int)) := (upd_ne Jp).trans kJ
    refine ⟨J, _, _, rfl, rfl, kJ9, by rw [List.length_map]; exact Nat.lt_of_lt_of_le (show acc.length < 100 by omega) (by decide), ?_⟩
    obtain ⟨G9, hG9⟩ : ∃ G9, G9 = upd (upd G p (.lst y9)) J (.lst (acc.map V.int ++ [.int d9])) := ⟨_, rfl⟩
    rw [← hG9]
    have kJ' : G9 J = some (.lst ((acc ++ [d9]).map V.int)) := by rw [hG9, upd_same, List.map_append]; rfl
    have D9 : Fd K H0 s p ns (n + 20) G9 := by rw [hG9]; exact ((DG.put Y9).mono (by omega)).mut J0 Jp
    have c9 : Chg p H G9 := fun b o nb' e => by rw [hG9, upd_ne (ne_of_none e JH), upd_ne nb']; exact cG b o nb' e
    clear hG9
    refine ⟨_, rfl, J, acc ++ [d9], rfl, SqL.of kJ', by rw [List.length_append, List.length_singleton]; omega, fun sa sc hsa lsc => ?_⟩
    rw [List.length_append, List.length_singleton] at lsc
    refine ⟨sa, _, sc, rfl, upd_same, by omega, fun us la up mem lus hla => ?_⟩
    refine ⟨la, _, rfl, .inl ⟨SqL.of upd_same, fun t ht => ?_⟩⟩
    have s9 := ((same_upd (o := SetO w sa (fun j => decide (j ∈ acc ++ [d9])) sc) hsa).trans (same_upd (o := .lst (us.map V.int)) hla)).trans (same_upd (o := .tup (us.map V.int)) ht)
    have s2 := (same_upd (o := SetO w sa (fun j => decide (j ∈ acc ++ [d9])) sc) hsa).trans (same_upd (o := .lst (us.map V.int)) hla)
    have tH : H t = none := c9.back (s2.free ht) ((D9.same s2).ne ht)
    have mem' : ∀ x, x ∈ us ↔ x ∈ acc ++ [d9] := fun x => by rw [mem x]; simp
    refine q t us _ tH (D9.same s9) (c9.trans (Chg.same s9)) (SqT.of upd_same) ⟨fun z => ?_, up, fun x hx => ?_, by omega⟩
    · have : d9 ∈ us := (mem' d9).mpr (by simp)
      rw [z] at this
      simp at this
    · rcases List.mem_append.mp ((mem' x).mp hx) with h | h
      · exact low x h
      · rw [List.mem_singleton.mp h]; exact ⟨d90, d91⟩
/-! ### _law_many_seats, _law_family -/
def spMany (K : PySem.W.Frag) : Sp := fun vs H Q _ => ∃ (H0 : Hp) (s p : Addr) (ns : List Int) (n : Nat), vs = [.ref s, .ref p] ∧ Fd K H0 s p ns n H ∧ n < 100000000 ∧
  ∀ (m : Int) H', 1 ≤ m → m ≤ 60 → Fd K H0 s p ns (n + 2) H' → Chg p H H' → Q (.int m) H'
theorem sc_law_many_seats : FnScope ["script", "pot"] ["script", "pot"] (defScope s_law_many_seats) :=
  ⟨rfl, rfl, rfl, by decide +kernel, rfl, by decide +kernel, by decide +kernel⟩
theorem ok_many (F : Fn K mg "_law_many_seats" s_law_many_seats) (C_take : Cal P w K mg base "_law_take" 2 ["script", "pot", "many"] (spTake K)) : Cal P w K mg base "_law_many_seats" 3 ["script", "pot"] (spMany K) := by
  refine cal_of F sc_law_many_seats
    (fun _ _ _ _ _ _ us hl => match us, hl with | [_, _], _ => rfl) ?_ ?_
  · rintro vs H Q E ⟨H0, s, p, ns, n, rfl, _⟩
    rfl
  rintro f cdv A outer s' H vs Q E free hr ⟨H0, s, p, ns, n, rfl, D, nb, q⟩
  refine ⟨_, (pss_cons (ps_if (pt_cmpR op_eq (pe_cal C_take free (hr.mono (by decide)) (pa_cons (pv 0) (pa_cons (pv 1) (pa_cons pe_int pa_nil)))) pe_int (nomark _))
    (pss_one (ps_ret (pe_op op_add pe_int (pe_cal C_take free (hr.mono (by decide)) (pa_cons (pv 0) (pa_cons (pv 1) (pa_cons pe_int pa_nil)))))))
    pss_nil)
    (pss_one (ps_ret (pe_op op_add pe_int (pe_cal C_take free (hr.mono (by decide)) (pa_cons (pv 0) (pa_cons (pv 1) (pa_cons pe_int pa_nil)))))))), ?_⟩
  refine ⟨_, rfl, _, rfl, H0, s, p, ns, n, 4, rfl, D, by omega, by decide, by decide, fun d y d0 d1 Y => ?_⟩
  have D1 := D.put Y
  refine ⟨rfl, _, rfl, ?_⟩
  rw [dec_ii]
  refine ite2 (fun c => ?_) (fun c => ?_)
  · refine ⟨_, rfl, _, rfl, H0, s, p, ns, n + 1, 60, rfl, D1, by omega, by decide, by decide, fun d y d0 d1 Y => ?_⟩
    exact ⟨_, _, rfl, rfl, q _ _ (by omega) (by omega) (D1.put Y) (Chg.self.trans Chg.self)⟩
  · refine ⟨_, rfl, _, rfl, H0, s, p, ns, n + 1, 9, rfl, D1, by omega, by decide, by decide, fun d y d0 d1 Y => ?_⟩
    exact ⟨_, _, rfl, rfl, q _ _ (by omega) (by omega) (D1.put Y) (Chg.self.trans Chg.self)⟩
def spFamily (K : PySem.W.Frag) : Sp := fun vs H Q _ => ∃ (H0 : Hp) (s p : Addr) (ns : List Int) (n : Nat) (m : Int), vs = [.ref s, .ref p, .int m, .int 12] ∧ Fd K H0 s p ns n H ∧ n < 10000000 ∧ 0 < m ∧ m ≤ 60 ∧
  ∀ (l : Addr) (ks : List (Addr × List Int)) H', H l = none → Fd K H0 s p ns (n + 300) H' → Chg p H H' → Fam K H' l ks → FamOk m ks → ks.length ≤ 12 → Q (.ref l) H'
theorem sc_law_family : FnScope ["script", "pot", "seats", "most", "found", "k", "one"] ["script", "pot", "seats", "most"] (defScope s_law_family) :=
  ⟨rfl, rfl, rfl, by decide +kernel, rfl, by decide +kernel, by decide +kernel⟩
theorem ok_family (F : Fn K mg "_law_family" s_law_family) (T : BlF mg) (C_take : Cal P w K mg base "_law_take" 2 ["script", "pot", "many"] (spTake K)) (C_set : Cal P w K mg base "_law_set" 3 ["script", "pot", "seats"] (spLSet K)) :
    Cal P w K mg base "_law_family" 4 ["script", "pot", "seats", "most"] (spFamily K) := by
  refine cal_of F sc_law_family
    (fun _ _ _ _ _ _ us hl => match us, hl with | [_, _, _, _], _ => rfl) ?_ ?_
  · rintro vs H Q E ⟨H0, s, p, ns, n, m, rfl, _⟩
    rfl
  rintro f cdv A outer s' H vs Q E free hr ⟨H0, s, p, ns, n, m, rfl, D, nb, m0, mb, q⟩
  refine ⟨_, (pss_cons (ps_set (i := 4) sc_law_family.nd rfl (Or.inl rfl) (pe_lst pa_nil))
    (pss_cons (ps_for PassesOwn.never rfl (pi_range1 (by rfl) T.range (pa_cons (pe_cal C_take free (hr.mono (by decide)) (pa_cons (pv 0) (pa_cons (pv 1) (pa_cons (pe_op op_add (pv 3) pe_int) pa_nil)))) pa_nil)) (pg_name (i := 5) sc_law_family.nd rfl (Or.inl rfl))
    (pss_cons (ps_set (i := 6) sc_law_family.nd rfl (Or.inl rfl) (pe_cal C_set free (hr.mono (by decide)) (pa_cons (pv 0) (pa_cons (pv 1) (pa_cons (pv 2) pa_nil)))))
    (pss_one (ps_if (pt_cmpR (op_notInD (u65 hr)) (pv 6) (pv 4) (by rfl))
    (pss_one (ps_expr (pe_bm PySem.F.plainAttrs_list PySem.F.slot_list_append PySem.F.type_list_append mt_append (pv 4) (pa_cons (pv 6) pa_nil))))
    pss_nil))))
    (pss_one (ps_ret (pv 4))))), ?_⟩
  refine ⟨Nat.zero_le _, fun l hl => ?_⟩
  have D0 := D.same (same_upd (o := .lst []) hl)
  have lp := D.ne hl
  have l0 := D.old.free hl
  refine ⟨_, rfl, _, rfl, _, rfl, _, _, rfl, rfl, H0, s, p, ns, n, 13, rfl, D0, by omega, by decide, by decide, fun d y d0 d1 Y => ?_⟩
  have D1 := D0.put Y
  refine ⟨_, rfl, by omega, by omega, ?_⟩
  refine for_range (lo := 0) (n := d.toNat) (fun i σ G => (∃ z1 z2 : Option V, σ = [some (V.ref s), some (V.ref p), some (V.int m), some (V.int 12), some (V.ref l), z1, z2]) ∧
    ∃ ks, Fam K G l ks ∧ FamOk m ks ∧ ks.length ≤ i ∧ Fd K H0 s p ns (n + 1 + 20 * i) G ∧ Chg p H G)
    ⟨⟨_, _, rfl⟩, [], ⟨(upd_ne lp).trans upd_same, fun p m => by simp at m⟩, ⟨fun p m => by simp at m, .nil⟩, Nat.zero_le _, D1, (Chg.same (same_upd hl)).trans Chg.self⟩ ?_ ?_
  · rintro i σ G hi ⟨⟨z1, z2, rfl⟩, ks, Fk, Ok, lk, DG, cG⟩
    refine ⟨_, rfl, _, rfl, _, rfl, H0, s, p, ns, n + 1 + 20 * i, m, rfl, DG, by omega, m0, mb, fun t us G2 ht D2 c2 qt Ou => ?_⟩
    have F2 := Fk.chg DG.lst c2 lp
    refine ⟨_, rfl, _, rfl, tuD us, (worth ks).map tuD, .tup qt (dps_ints us), F2.dp, shaped_tu us, shaped_tus _, _, rfl, ?_⟩
    rw [any_tu]
    have D2' := D2.mono (show n + 1 + 20 * i + 20 ≤ n + 1 + 20 * (i + 1) by omega)
    refine ite2 (fun c3 => ?_) (fun c3 => ?_)
    · have nin : us ∉ worth ks := by simpa using c3
      refine ⟨_, rfl, .inl ⟨rfl, _, SqL.of F2.at_⟩, _, rfl, l, _, _, rfl, rfl, F2.at_, by unfold refs; rw [List.length_map]; exact Nat.lt_of_lt_of_le (show ks.length < 100 by omega) (by decide), ?_⟩
      refine ⟨⟨_, _, rfl⟩, ks ++ [(t, us)], ⟨by rw [upd_same]; unfold refs; rw [List.map_append]; rfl, fun p' m' => ?_⟩, ⟨fun p' m' => ?_, ?_⟩, by rw [List.length_append, List.length_singleton]; omega, D2'.mut l0 lp, fun b o nb' e => ?_⟩
      · have keep : ∀ {a xs}, SqT K G2 a xs → SqT K (upd G2 l (.lst (refs ks ++ [.ref t]))) a xs := fun z => sqt_chg ⟨_, F2.at_⟩ Chg.self z
        rcases List.mem_append.mp m' with h | h
        · exact keep (F2.tups p' h)
        · rw [List.mem_singleton.mp h]; exact keep qt
      · rcases List.mem_append.mp m' with h | h
        · exact Ok.well p' h
        · rw [List.mem_singleton.mp h]; exact Ou
      · unfold worth
        rw [List.map_append]
        exact List.nodup_append.mpr ⟨Ok.nd, by simp, fun a ha b hb => by
          rw [show b = us by simpa using hb]
          exact fun z => nin (z ▸ ha)⟩
      · rw [upd_ne (ne_of_none e hl)]
        exact c2 _ _ nb' (cG b o nb' e)
    · exact ⟨⟨_, _, rfl⟩, ks, F2, Ok, by omega, D2', cG.trans c2⟩
  · rintro σ G ⟨⟨z1, z2, rfl⟩, ks, Fk, Ok, lk, DG, cG⟩
    exact ⟨_, rfl, q l ks G hl (DG.mono (by omega)) cG Fk Ok (by omega)⟩
end

end G0
namespace G0
open PySem PySem.Spec PyProof.Rows L2
/-! ### what is never reached; a for over enumerate -/
def tDead : TS := fun _ _ _ => False
theorem ps_dead {X : Cx} {st : Stmt} : PS X st tDead := ⟨fun _ _ _ _ _ _ h => h.elim⟩
theorem for_enum {K : PySem.W.Frag} {a : Addr} {xs : List V} {g : TG} {tb : TS} {D : Ends} {σ : L2.St} {H : Hp} (Pv : Nat → L2.St → Hp → Prop) (h0 : Pv 0 σ H) (here : ∀ i σ H, Pv i σ H → SqL K H a xs)
    (turn : ∀ i x (t : Addr) σ H, xs[i]? = some x → Pv i σ H → H t = none → g (.ref t) σ (upd H t (.tup [.int (i : Nat), x])) fun σ2 H2 => tb { D with nx := Pv (i + 1), ct := Pv (i + 1), bk := D.nx } σ2 H2) (done : ∀ σ H, Pv xs.length σ H → D.nx σ H) :
    ∃ W : Nat → Nat → L2.St → Hp → Prop, (∃ m, W 0 m σ H) ∧ ∀ i m σ H, W i m σ H →
      ((Ite K a).stop i H ∧ D.nx σ H) ∨ ((Ite K a).go i H ∧ ∃ N : L2.St → Hp → Prop, (∀ σ' H', N σ' H' → ∃ m', m' < m ∧ W (i + 1) m' σ' H') ∧ ∀ x H', (Ite K a).yld i H x H' → g x σ H' fun σ2 H2 => tb { D with nx := N, ct := N, bk := D.nx } σ2 H2) := by
  refine ⟨fun i m σ H => m = xs.length - i ∧ i ≤ xs.length ∧ Pv i σ H, ⟨_, rfl, Nat.zero_le _, h0⟩, ?_⟩
  rintro i m σ H ⟨rfl, le, pv⟩
  have sq := here i σ H pv
  rcases Nat.lt_or_ge i xs.length with lt | ge
  · refine .inr ⟨⟨xs, xs[i], sq, List.getElem?_eq_getElem lt⟩, Pv (i + 1), fun σ' H' p' => ⟨xs.length - (i + 1), by omega, rfl, lt, p'⟩, fun v H' told => ?_⟩
    obtain ⟨t, x, rfl, ht, rfl, all⟩ := told
    exact turn i x t σ H (all xs sq) pv ht
  · have e : i = xs.length := by omega
    subst e
    exact .inl ⟨⟨xs, sq, Nat.le_refl _⟩, done σ H pv⟩
section
variable {P : Program} {w : World} {K : PySem.W.Frag} {mg : Str → Option Value} {base : Heap}
theorem filt_snoc {α : Type} {M : List α} {i : Nat} {k : α} (e : M[i]? = some k) (g : α → Bool) : (M.take (i + 1)).filter g = (M.take i).filter g ++ (if g k = true then [k] else []) := by
  rw [List.take_succ, e, List.filter_append]
  cases h : g k <;> simp [h]
theorem ints_at {ns : List Int} {i : Nat} {x : V} (h : (ns.map V.int)[i]? = some x) : ∃ k, ns[i]? = some k ∧ x = V.int k := by
  rw [List.getElem?_map] at h
  cases e : ns[i]? with
  | none => rw [e] at h; cases h
  | some k => rw [e] at h; exact ⟨k, rfl, (Option.some.inj h).symm⟩
/-! ### is_below, look_at_seat, _set_fault -/
def spBel : Sp := fun vs H Q _ => ∃ x n : Int, vs = [.int x, .int n] ∧ Q (.bl (decide (0 ≤ x) && decide (x < n))) H
theorem sc_is_below : FnScope ["thing", "top"] ["thing", "top"] (defScope s_is_below) :=
  ⟨rfl, rfl, rfl, by decide +kernel, rfl, by decide +kernel, by decide +kernel⟩
theorem ok_bel (F : Fn K mg "is_below" s_is_below) (T : BlF mg) : Cal P w K mg base "is_below" 1 ["thing", "top"] spBel := by
  refine cal_of F sc_is_below
    (fun _ _ _ _ _ _ us hl => match us, hl with | [_, _], _ => rfl) ?_ ?_
  · rintro vs H Q E ⟨x, n, rfl, _⟩
    rfl
  rintro f cdv A outer s H vs Q E free hr ⟨x, n, rfl, q⟩
  refine ⟨_, (pss_one (ps_ret (pe_and (pe_callB call_isi (by rfl) T.isinstance (by decide +kernel) (pa_cons (pv 0) (pa_cons (pe_bltn (v := .ty "int") (by rfl) T.int (by decide +kernel) rfl) pa_nil))) (pe_and (pe_not (pe_callB call_isi (by rfl) T.isinstance (by decide +kernel) (pa_cons (pv 0) (pa_cons (pe_bltn (v := .ty "bool") (by rfl) T.bool (by decide +kernel) rfl) pa_nil)))) (pe_one (pe_chain op_le op_lt pe_int (pv 0) (pv 1))))))), ?_⟩
  refine ⟨_, rfl, _, .ty "int", _, _, _, rfl, .ty _, .base (.int x), kit_ty (r := true) (by decide +kernel), _, rfl, iteT' rfl ?_⟩
  refine ⟨_, rfl, _, .ty "bool", _, _, _, rfl, .ty _, .base (.int x), kit_ty (r := false) (by decide +kernel), _, rfl, _, rfl, iteT' rfl ?_⟩
  refine ⟨_, rfl, _, _, rfl, rfl, _, rfl, ?_⟩
  refine ite2 (fun c => ⟨_, rfl, _, _, rfl, rfl, ?_⟩) (fun c => ?_)
  · have c' : decide (0 ≤ x) = true := c
    rw [c'] at q
    exact q
  · have c' : decide (0 ≤ x) = false := by simpa using c
    rw [c'] at q
    exact q
def spLook : Sp := fun vs H Q _ => ∃ x n : Int, vs = [.int x, .int n] ∧ 0 ≤ x ∧ x < n ∧ Q .non H
theorem sc_look_at_seat : FnScope ["seat", "seats"] ["seat", "seats"] (defScope s_look_at_seat) :=
  ⟨rfl, rfl, rfl, by decide +kernel, rfl, by decide +kernel, by decide +kernel⟩
theorem ok_look (F : Fn K mg "look_at_seat" s_look_at_seat) (Cis_below : Cal P w K mg base "is_below" 1 ["thing", "top"] spBel) : Cal P w K mg base "look_at_seat" 2 ["seat", "seats"] spLook := by
  refine cal_of F sc_look_at_seat
    (fun _ _ _ _ _ _ us hl => match us, hl with | [_, _], _ => rfl) ?_ ?_
  · rintro vs H Q E ⟨x, n, rfl, _⟩
    rfl
  rintro f cdv A outer s H vs Q E free hr ⟨x, n, rfl, x0, x1, q⟩
  refine ⟨_, (pss_one (ps_if (pt_not (pt_val (pe_cal Cis_below free (hr.mono (by decide)) (pa_cons (pv 0) (pa_cons (pv 1) pa_nil)))))
    (pss_one ps_dead)
    pss_nil)), ?_⟩
  refine ⟨_, rfl, _, rfl, x, n, rfl, _, rfl, ?_⟩
  refine iteF' (by simp [x0, x1]) ?_
  exact q
def spSetF (K : PySem.W.Frag) : Sp := fun vs H Q _ => ∃ (n : Int) (t : Addr) (us : List Int), vs = [.int n, .ref t] ∧ SqT K H t (us.map V.int) ∧ SetOk n us ∧ ∀ H', Same H H' → Q .non H'
theorem up_at {us : List Int} (up : us.Pairwise (· < ·)) {i : Nat} {x y : Int} (h1 : us[i]? = some x) (h2 : us[i + 1]? = some y) : x < y := by
  obtain ⟨l1, e1⟩ := List.getElem?_eq_some_iff.mp h1
  obtain ⟨l2, e2⟩ := List.getElem?_eq_some_iff.mp h2
  have := List.pairwise_iff_getElem.mp up i (i + 1) l1 l2 (by omega)
  rw [e1, e2] at this
  exact this
theorem sc_set_fault : FnScope ["seats", "one", "seat", "at"] ["seats", "one"] (defScope s_set_fault) :=
  ⟨rfl, rfl, rfl, by decide +kernel, rfl, by decide +kernel, by decide +kernel⟩
theorem ok_setf (F : Fn K mg "_set_fault" s_set_fault) (T : BlF mg) (Cis_below : Cal P w K mg base "is_below" 1 ["thing", "top"] spBel) : Cal P w K mg base "_set_fault" 2 ["seats", "one"] (spSetF K) := by
  refine cal_of F sc_set_fault
    (fun _ _ _ _ _ _ us hl => match us, hl with | [_, _], _ => rfl) ?_ ?_
  · rintro vs H Q E ⟨n, t, us, rfl, _⟩
    rfl
  rintro f cdv A outer s H vs Q E free hr ⟨n, t, us, rfl, ht, ok, q⟩
  refine ⟨_, (pss_cons (ps_if (pt_cmpR op_eq (pe_callB call_len_seq (by rfl) T.len (by decide +kernel) (pa_cons (pv 1) pa_nil)) pe_int (nomark _))
    (pss_one (ps_ret pe_str))
    pss_nil)
    (pss_cons (ps_if (pt_not (pt_val (pe_callB (cr_all (by rfl)) (by rfl) T.all (by decide +kernel) (pa_cons (pe_lc (own := [("seat", 2)]) (g := gName 2) (tt := tYes) (by rfl) sc_set_fault.nd (pi_tup (pv 1)) (blkOk_by (N := ["seats", "one", "seat", "at"]) (sc := defScope s_set_fault) (by decide +kernel)) (fun _ _ _ _ _ => pg_name (i := 2) sc_set_fault.nd rfl (Or.inl rfl)) (fun _ _ _ _ _ => pts_nil) (fun _ _ _ _ _ => (pe_cal Cis_below free (hr.mono (by decide)) (pa_cons (pv 2) (pa_cons (pv 0) pa_nil))))) pa_nil))))
    (pss_one (ps_ret pe_str))
    pss_nil)
    (pss_cons (ps_if (pt_not (pt_val (pe_callB (cr_all (by rfl)) (by rfl) T.all (by decide +kernel) (pa_cons (pe_lc (own := [("at", 3)]) (g := gName 3) (tt := tYes) (by rfl) sc_set_fault.nd (pi_range2 (by rfl) T.range (pa_cons pe_int (pa_cons (pe_callB call_len_seq (by rfl) T.len (by decide +kernel) (pa_cons (pv 1) pa_nil)) pa_nil))) (blkOk_by (N := ["seats", "one", "seat", "at"]) (sc := defScope s_set_fault) (by decide +kernel)) (fun _ _ _ _ _ => pg_name (i := 3) sc_set_fault.nd rfl (Or.inl rfl)) (fun _ _ _ _ _ => pts_nil) (fun _ _ _ _ _ => (pe_cmpR op_lt (pe_ix (ix_tupK K) (pv 1) (pe_op op_sub (pv 3) pe_int) (fun _ _ => rfl)) (pe_ix (ix_tupK K) (pv 1) (pv 3) (fun _ _ => rfl)) (nomark _)))) pa_nil))))
    (pss_one (ps_ret pe_str))
    pss_nil)
    (pss_one (ps_ret pe_non))))), ?_⟩
  have few := ok.few
  have pos : 0 < us.length := List.length_pos_iff.mpr ok.ne
  refine ⟨_, rfl, t, _, rfl, .inr ht, rfl, _, rfl, ?_⟩
  refine iteF' (by rw [List.length_map, dec_ii]; simp [ok.ne]) ?_
  refine ⟨_, rfl, t, rfl, ⟨_, ht⟩, fun D hD => ?_⟩
  refine lc_tup (K := K) (a := t) (xs := us.map V.int) (fun i G => Same H G ∧ G D = some (.lst ((List.replicate i true).map V.bl))) ⟨same_upd hD, upd_same⟩ (fun i G _ h => sqt_same h.1 ht) ?_ ?_
  · rintro i x G hi ⟨sG, kD⟩
    obtain ⟨y, ey, rfl⟩ := ints_at hi
    have b := ok.low y (List.mem_of_getElem? ey)
    have li := (List.getElem?_eq_some_iff.mp ey).1
    refine ⟨rfl, lc_yes ?_⟩
    refine ⟨_, rfl, _, rfl, y, n, rfl, _, kD, ?_, fun c o e => ?_, ?_⟩
    · rw [List.length_map, List.length_replicate]
      exact Nat.lt_of_lt_of_le (show i < 100 by omega) (by decide)
    · rw [upd_ne (ne_of_none e hD)]
      exact sG _ _ e
    · rw [List.replicate_succ', List.map_append, show (decide (0 ≤ y) && decide (y < n)) = true by simp [b.1, b.2]]
      exact upd_same
  rintro G ⟨sG, kD⟩
  refine ⟨D, _, rfl, SqL.of kD, _, rfl, ?_⟩
  refine iteF' (by rw [List.all_replicate]; simp) ?_
  have htG := sqt_same sG ht
  have hl : (us.map V.int).length = us.length := List.length_map _
  refine ⟨_, rfl, t, _, rfl, .inr htG, _, _, rfl, ⟨by omega, by omega, by omega, by omega⟩, fun D2 hD2 => ?_⟩
  rw [hl]
  refine lc_range (lo := 1) (n := (((us.length : Nat) : Int) - 1).toNat) (fun i G2 => Same G G2 ∧ G2 D2 = some (.lst ((List.replicate i true).map V.bl))) ⟨same_upd hD2, upd_same⟩ ?_ ?_
  · rintro i G2 hi ⟨s2, k2⟩
    have ht2 := sqt_same s2 htG
    have l1 : i < us.length := by omega
    have l2 : i + 1 < us.length := by omega
    have b := up_at ok.up (List.getElem?_eq_getElem l1) (List.getElem?_eq_getElem l2)
    have a1 : atI (us.map V.int) (1 + (i : Int) - 1) = some (.int us[i]) := by
      rw [show (1 + (i : Int) - 1) = ((i : Nat) : Int) by omega]
      exact atI_nat (by rw [List.getElem?_map, List.getElem?_eq_getElem l1]; rfl)
    have a2 : atI (us.map V.int) (1 + (i : Int)) = some (.int us[i + 1]) := by
      rw [show (1 + (i : Int)) = ((i + 1 : Nat) : Int) by omega]
      exact atI_nat (by rw [List.getElem?_map, List.getElem?_eq_getElem l2]; rfl)
    refine ⟨rfl, lc_yes ?_⟩
    refine ⟨_, rfl, _, rfl, _, _, rfl, rfl, t, _, _, _, rfl, rfl, ht2, a1, _, rfl, _, rfl, t, _, _, _, rfl, rfl, ht2, a2, _, _, rfl, rfl, _, k2, ?_, fun c o e => ?_, ?_⟩
    · rw [List.length_map, List.length_replicate]
      exact Nat.lt_of_lt_of_le (show i < 100 by omega) (by decide)
    · rw [upd_ne (ne_of_none e hD2)]
      exact s2 _ _ e
    · rw [List.replicate_succ', List.map_append, upd_same]
      show some (HO.lst (_ ++ [V.bl (decide (us[i] < us[i + 1]))])) = _
      rw [decide_eq_true b]
      rfl
  rintro G2 ⟨s2, k2⟩
  refine ⟨D2, _, rfl, SqL.of k2, _, rfl, ?_⟩
  refine iteF' (by rw [List.all_replicate]; simp) ?_
  exact q _ (sG.trans s2)
/-! ### fault, looked -/
def spFault (K : PySem.W.Frag) : Sp := fun vs H Q _ => ∃ (n : Int) (l : Addr) (ks : List (Addr × List Int)), vs = [.int n, .ref l] ∧ Fam K H l ks ∧ FamOk n ks ∧ ks.length ≤ 50 ∧ ∀ H', Same H H' → Q .non H'
theorem refs_at {ks : List (Addr × List Int)} {i : Nat} {x : V} (h : (refs ks)[i]? = some x) : ∃ p, ks[i]? = some p ∧ x = .ref p.1 := by
  unfold refs at h
  rw [List.getElem?_map] at h
  cases e : ks[i]? with
  | none => rw [e] at h; cases h
  | some p => rw [e] at h; exact ⟨p, rfl, (Option.some.inj h).symm⟩
theorem sc_fault : FnScope ["seats", "sets", "seen", "number", "one", "why"] ["seats", "sets"] (defScope s_fault) :=
  ⟨rfl, rfl, rfl, by decide +kernel, rfl, by decide +kernel, by decide +kernel⟩
theorem ok_fault (F : Fn K mg "fault" s_fault) (T : BlF mg) (C_set_fault : Cal P w K mg base "_set_fault" 2 ["seats", "one"] (spSetF K)) : Cal P w K mg base "fault" 3 ["seats", "sets"] (spFault K) := by
  refine cal_of F sc_fault
    (fun _ _ _ _ _ _ us hl => match us, hl with | [_, _], _ => rfl) ?_ ?_
  · rintro vs H Q E ⟨n, l, ks, rfl, _⟩
    rfl
  rintro f cdv A outer s H vs Q E free hr ⟨n, l, ks, rfl, Fk, Ok, few, q⟩
  refine ⟨_, (pss_cons (ps_set (i := 2) sc_fault.nd rfl (Or.inl rfl) (pe_callTy0 cr_set0T (by rfl) T.set (by decide +kernel)))
    (pss_cons (ps_for PassesOwn.never rfl (pi_enum (by rfl) T.enumerate (pa_cons (pv 1) pa_nil)) (pg_tup (by rfl) (pgs_cons (pg_name (i := 3) sc_fault.nd rfl (Or.inl rfl)) (pgs_cons (pg_name (i := 4) sc_fault.nd rfl (Or.inl rfl)) pgs_nil)))
    (pss_cons (ps_set (i := 5) sc_fault.nd rfl (Or.inl rfl) (pe_cal C_set_fault free (hr.mono (by decide)) (pa_cons (pv 0) (pa_cons (pv 4) pa_nil))))
    (pss_cons (ps_if (PW.pt (pw_and (pt_cmpR op_isN (pv 5) pe_non (nomark _)) (pw_and1 (pt_cmpR (op_inT (u64 hr)) (pv 4) (pv 2) (by rfl)))))
    (pss_one (ps_set (i := 5) sc_fault.nd rfl (Or.inl rfl) pe_str))
    pss_nil)
    (pss_cons (ps_if (pt_cmpR op_notN (pv 5) pe_non (nomark _))
    (pss_one (ps_ret (pe_tup (pa_cons (pv 3) (pa_cons (pv 5) pa_nil)))))
    pss_nil)
    (pss_one (ps_expr (pe_addT (u64 hr) (pv 2) (pa_cons (pv 4) pa_nil))))))))
    (pss_one (ps_ret pe_non)))), ?_⟩
  refine ⟨rfl, fun S hS => ?_⟩
  refine ⟨_, rfl, l, _, rfl, SqL.of (same_upd hS _ _ Fk.at_), ?_⟩
  refine for_enum (K := K) (a := l) (xs := refs ks) (fun i σ G => (∃ z3 z4 z5 : Option V, σ = [some (V.int n), some (V.ref l), some (V.ref S), z3, z4, z5]) ∧ Same H G ∧ ∃ L : List (Addr × List Int), G S = some (SetTO P w S L) ∧ L.length ≤ i ∧ (∀ p ∈ L, SqT K G p.1 (p.2.map V.int)) ∧ ∀ p ∈ L, p.2 ∈ (worth ks).take i)
    ⟨⟨_, _, _, rfl⟩, same_upd hS, [], upd_same, Nat.le_refl _, fun p m => by simp at m, fun p m => by simp at m⟩ (fun i σ G h => SqL.of (h.2.1 _ _ Fk.at_)) ?_ ?_
  · rintro i x T σ G hi ⟨⟨z3, z4, z5, rfl⟩, sG, L, kS, lL, tL, wL⟩ hT
    obtain ⟨p, hp, rfl⟩ := refs_at hi
    have pm := List.mem_of_getElem? hp
    have li := (List.getElem?_eq_some_iff.mp hp).1
    have sT := same_upd (o := .tup [.int (i : Nat), .ref p.1]) hT
    refine ⟨T, [.int (i : Nat), .ref p.1], rfl, SqT.of upd_same, rfl, _, _, rfl, _, _, rfl, rfl, ?_⟩
    have tp := sqt_same (sG.trans sT) (Fk.tups p pm)
    refine ⟨_, rfl, _, rfl, n, p.1, p.2, rfl, tp, Ok.well p pm, fun G2 s2 => ?_⟩
    have tp2 := sqt_same s2 tp
    have kS2 := s2 _ _ (sT _ _ kS)
    have tL2 : ∀ q ∈ L, SqT K G2 q.1 (q.2.map V.int) := fun q m => sqt_same (sT.trans s2) (tL q m)
    have wi : (worth ks)[i]? = some p.2 := by unfold worth; rw [List.getElem?_map, hp]; rfl
    have nin : p.2 ∉ L.map (·.2) := fun m => by
      obtain ⟨q, mq, eq⟩ := List.mem_map.mp m
      have h1 := wL q mq
      rw [eq] at h1
      obtain ⟨j, lj, ej⟩ := List.mem_take_iff_getElem.mp h1
      have lj' : j < i := by omega
      have : j = i := by
        have h2 : (worth ks)[j]? = some p.2 := by rw [List.getElem?_eq_getElem (by omega), ej]
        exact (List.getElem?_inj (by omega) Ok.nd).mp (h2.trans wi.symm)
      omega
    refine ⟨_, rfl, rfl, _, rfl, iteT' rfl ?_⟩
    refine ⟨_, rfl, _, rfl, p.1, S, p.2, L, rfl, rfl, kS2, tp2, tL2, _, rfl, ?_⟩
    rw [decide_eq_false nin]
    refine iteF' rfl ?_
    refine ⟨_, rfl, rfl, _, rfl, iteF' rfl ?_⟩
    refine ⟨_, rfl, ⟨S, L, rfl, kS2, tL2⟩, _, rfl, S, p.1, p.2, L, rfl, rfl, kS2, tp2, tL2, by omega, fun L' c1 c2 => ?_⟩
    have pr := c2 nin
    have keep : ∀ {a xs}, SqT K G2 a xs → SqT K (upd G2 S (SetTO P w S L')) a xs := fun {a xs} z => by
      rcases z with (z | ⟨o, z⟩) | z
      · exact .inl (.inl ((upd_ne (ne_of z kS2 (by intro y; cases y))).trans z))
      · exact .inl (.inr ⟨o, (upd_ne (ne_of z kS2 (by intro y; cases y))).trans z⟩)
      · exact .inr z
    refine ⟨⟨_, _, _, rfl⟩, fun b o e => (upd_ne (ne_of_none e hS)).trans (s2 _ _ (sT _ _ (sG _ _ e))), L', upd_same, ?_, fun q m => ?_, fun q m => ?_⟩
    · rw [pr.length_eq, List.length_cons]; omega
    · rcases List.mem_cons.mp (pr.mem_iff.mp m) with rfl | h
      · exact keep tp2
      · exact keep (tL2 q h)
    · rw [List.take_succ, wi]
      rcases List.mem_cons.mp (pr.mem_iff.mp m) with rfl | h
      · exact List.mem_append_right _ (by simp)
      · exact List.mem_append_left _ (wL q h)
  · rintro σ G ⟨⟨z3, z4, z5, rfl⟩, sG, _⟩
    exact q _ sG
structure BlC (mg : Str → Option Value) : Prop where
  seats : ∃ t, mg "SEATS" = some (.int 60 t)
  sets : ∃ t, mg "SETS" = some (.int 200 t)
def spLooked (K : PySem.W.Frag) : Sp := fun vs H Q _ => ∃ (n : Int) (l : Addr) (ks : List (Addr × List Int)), vs = [.int n, .ref l] ∧ (1 ≤ n ∧ n ≤ 60) ∧ Fam K H l ks ∧ FamOk n ks ∧ ks.length ≤ 50 ∧ ∀ H', Same H H' → Q .non H'
theorem sc_looked : FnScope ["seats", "sets", "found"] ["seats", "sets"] (defScope s_looked) :=
  ⟨rfl, rfl, rfl, by decide +kernel, rfl, by decide +kernel, by decide +kernel⟩
theorem ok_looked (F : Fn K mg "looked" s_looked) (T : BlF mg) (Cs : BlC mg) (Cfault : Cal P w K mg base "fault" 3 ["seats", "sets"] (spFault K)) : Cal P w K mg base "looked" 4 ["seats", "sets"] (spLooked K) := by
  obtain ⟨t1, hSe⟩ := Cs.seats
  obtain ⟨t2, hSs⟩ := Cs.sets
  refine cal_of F sc_looked
    (fun _ _ _ _ _ _ us hl => match us, hl with | [_, _], _ => rfl) ?_ ?_
  · rintro vs H Q E ⟨n, l, ks, rfl, _⟩
    rfl
  rintro f cdv A outer s H vs Q E free hr ⟨n, l, ks, rfl, ⟨n0, n1⟩, Fk, Ok, few, q⟩
  refine ⟨_, (pss_cons (ps_if (pt_not (pt_chain op_le op_le pe_int (pv 0) (pe_glob (v := .int 60) (by rfl) hSe ⟨_, rfl⟩)))
    (pss_one ps_dead)
    pss_nil)
    (pss_cons (ps_if (pt_cmpR op_gt (pe_callB call_len_seq (by rfl) T.len (by decide +kernel) (pa_cons (pv 1) pa_nil)) (pe_glob (v := .int 200) (by rfl) hSs ⟨_, rfl⟩) (nomark _))
    (pss_one ps_dead)
    pss_nil)
    (pss_cons (ps_set (i := 2) sc_looked.nd rfl (Or.inl rfl) (pe_cal Cfault free (hr.mono (by decide)) (pa_cons (pv 0) (pa_cons (pv 1) pa_nil))))
    (pss_one (ps_if (pt_cmpR op_notN (pv 2) pe_non (nomark _))
    (pss_one ps_dead)
    pss_nil))))), ?_⟩
  refine ⟨_, rfl, _, _, rfl, rfl, _, rfl, iteT' (decide_eq_true n0) ⟨_, _, rfl, rfl, _, rfl, ?_⟩⟩
  refine iteF' (by simp [n1]) ?_
  refine ⟨_, rfl, l, _, rfl, .inl (SqL.of Fk.at_), _, _, rfl, rfl, _, rfl, ?_⟩
  refine iteF' (by unfold refs; rw [List.length_map]; simp; omega) ?_
  refine ⟨_, rfl, _, rfl, n, l, ks, rfl, Fk, Ok, few, fun H' sH => ?_⟩
  refine ⟨_, rfl, rfl, _, rfl, iteF' rfl ?_⟩
  exact q _ sH
end

end G0
namespace G0
open PySem PySem.Spec PyProof.Rows L2
/-! ### barred, and what is due -/
def hitsL (fs us : List Int) : List Int := us.filter fun x => decide (x ∈ fs)
def barGo (fs : List Int) : Nat → List (List Int) → List Int → PyData
  | _, [], acc => .tuple [.str "bar", .list (acc.map .int)]
  | i, us :: r, acc => match hitsL fs us with
    | [] => .tuple [.str "whole", .int (i : Nat)]
    | d :: _ => barGo fs (i + 1) r (acc ++ [d])
theorem hits_same {fs gs : List Int} (h : ∀ x, x ∈ fs ↔ x ∈ gs) (us : List Int) : hitsL fs us = hitsL gs us := by
  unfold hitsL
  refine List.filter_congr fun x _ => ?_
  simp [h x]
theorem bar_same {fs gs : List Int} (h : ∀ x, x ∈ fs ↔ x ∈ gs) : ∀ (W : List (List Int)) (i : Nat) (acc : List Int), barGo fs i W acc = barGo gs i W acc
  | [], _, _ => rfl
  | us :: r, i, acc => by
    unfold barGo
    rw [hits_same h us]
    cases hitsL gs us with
    | nil => rfl
    | cons d _ => exact bar_same h r _ _
inductive BarD : PyData → Prop
  | whole (i : Int) : BarD (.tuple [.str "whole", .int i])
  | bar (xs : List Int) : BarD (.tuple [.str "bar", .list (xs.map .int)])
theorem bar_form (fs : List Int) : ∀ (W : List (List Int)) (i : Nat) (acc : List Int), BarD (barGo fs i W acc)
  | [], _, acc => .bar acc
  | us :: r, i, acc => by
    unfold barGo
    cases hitsL fs us with
    | nil => exact .whole _
    | cons d _ => exact bar_form fs r _ _
theorem BarD.eqv {d : PyData} (h : BarD d) : PyData.eqv d d = true := by
  cases h with
  | whole i => simp [PyData.eqv, PyData.eqvAll]
  | bar xs => simp [PyData.eqv, PyData.eqvAll, eqv_is]
theorem BarD.shaped {d : PyData} (h : BarD d) : SeqAt.shaped d = true := by
  cases h with
  | whole i =>
    show ((PyData.tuple [.str "whole", .int i]).canLay0 && decide ((PyData.tuple [.str "whole", .int i]).depth ≤ 64)) = true
    have z : PyData.strOk "whole" = true := by decide +kernel
    simp [PyData.canLay0, PyData.canLayAll0, PyData.depth, PyData.depthAll, z]
  | bar xs =>
    have z : PyData.strOk "bar" = true := by decide +kernel
    show ((PyData.tuple [.str "bar", .list (xs.map .int)]).canLay0 && decide ((PyData.tuple [.str "bar", .list (xs.map .int)]).depth ≤ 64)) = true
    simp [PyData.canLay0, PyData.canLayAll0, PyData.depth, PyData.depthAll, lay_ints, deep_ints, z]
section
variable {P : Program} {w : World} {K : PySem.W.Frag} {mg : Str → Option Value} {base : Heap}
theorem bar_next {fs : List Int} {W : List (List Int)} {i : Nat} {us acc : List Int} {d : Int} {r : List Int} (hi : W[i]? = some us) (h : hitsL fs us = d :: r) : barGo fs i (W.drop i) acc = barGo fs (i + 1) (W.drop (i + 1)) (acc ++ [d]) := by
  obtain ⟨l, e⟩ := List.getElem?_eq_some_iff.mp hi
  rw [List.drop_eq_getElem_cons l, e]
  conv => lhs; unfold barGo
  rw [h]
theorem bar_stop {fs : List Int} {W : List (List Int)} {i : Nat} {us acc : List Int} (hi : W[i]? = some us) (h : hitsL fs us = []) : barGo fs i (W.drop i) acc = .tuple [.str "whole", .int (i : Nat)] := by
  obtain ⟨l, e⟩ := List.getElem?_eq_some_iff.mp hi
  rw [List.drop_eq_getElem_cons l, e]
  unfold barGo
  rw [h]
theorem bar_end {fs : List Int} {W : List (List Int)} {acc : List Int} : barGo fs W.length (W.drop W.length) acc = .tuple [.str "bar", .list (acc.map .int)] := by
  rw [List.drop_length]
  rfl
def spBarred (K : PySem.W.Frag) : Sp := fun vs H Q _ => ∃ (n : Int) (l fl : Addr) (ks : List (Addr × List Int)) (fs : List Int), vs = [.int n, .ref l, .ref fl] ∧ (1 ≤ n ∧ n ≤ 60) ∧ Fam K H l ks ∧ FamOk n ks ∧ ks.length ≤ 50 ∧ H fl = some (.lst (fs.map V.int)) ∧
  (∀ x ∈ fs, 0 ≤ x ∧ x < n) ∧ ∀ r H', Same H H' → Dp K H' r (barGo fs 0 (worth ks) []) → Q r H'
theorem worth_at {ks : List (Addr × List Int)} {i : Nat} {p : Addr × List Int} (h : ks[i]? = some p) : (worth ks)[i]? = some p.2 := by
  unfold worth
  rw [List.getElem?_map, h]
  rfl
theorem sc_barred : FnScope ["seats", "sets", "fallen", "seat", "bar", "number", "one", "down"] ["seats", "sets", "fallen"] (defScope s_barred) :=
  ⟨rfl, rfl, rfl, by decide +kernel, rfl, by decide +kernel, by decide +kernel⟩
theorem ok_barred (F : Fn K mg "barred" s_barred) (T : BlF mg) (Clooked : Cal P w K mg base "looked" 4 ["seats", "sets"] (spLooked K)) (Clook_at_seat : Cal P w K mg base "look_at_seat" 2 ["seat", "seats"] spLook) :
    Cal P w K mg base "barred" 5 ["seats", "sets", "fallen"] (spBarred K) := by
  refine cal_of F sc_barred
    (fun _ _ _ _ _ _ us hl => match us, hl with | [_, _, _], _ => rfl) ?_ ?_
  · rintro vs H Q E ⟨n, l, fl, ks, fs, rfl, _⟩
    rfl
  rintro f cdv A outer s H vs Q E free hr ⟨n, l, fl, ks, fs, rfl, nn, Fk, Ok, few, kf, lo, q⟩
  refine ⟨_, (pss_cons (ps_expr (pe_cal Clooked free (hr.mono (by decide)) (pa_cons (pv 0) (pa_cons (pv 1) pa_nil))))
    (pss_cons (ps_for PassesOwn.never rfl (pi_list (pv 2)) (pg_name (i := 3) sc_barred.nd rfl (Or.inl rfl))
    (pss_one (ps_expr (pe_cal Clook_at_seat free (hr.mono (by decide)) (pa_cons (pv 3) (pa_cons (pv 0) pa_nil))))))
    (pss_cons (ps_set (i := 4) sc_barred.nd rfl (Or.inl rfl) (pe_lst pa_nil))
    (pss_cons (ps_for PassesOwn.never rfl (pi_enum (by rfl) T.enumerate (pa_cons (pv 1) pa_nil)) (pg_tup (by rfl) (pgs_cons (pg_name (i := 5) sc_barred.nd rfl (Or.inl rfl)) (pgs_cons (pg_name (i := 6) sc_barred.nd rfl (Or.inl rfl)) pgs_nil)))
    (pss_cons (ps_setLc (i := 7) (own := [("seat", 3)]) (g := gName 3)  (by rfl) sc_barred.nd rfl rfl (sw_true rfl rfl rfl (by decide +kernel)) (pi_tup (pv 6)) (blkOk_by (N := ["seats", "sets", "fallen", "seat", "bar", "number", "one", "down"]) (sc := defScope s_barred) (by decide +kernel)) (fun _ _ _ _ _ => pg_name (i := 3) sc_barred.nd rfl (Or.inl rfl)) (fun _ _ _ _ _ => pts_one (pt_cmpR (u_inK K) (pv 3) (pv 2) (by rfl))) (fun _ _ _ _ _ => (pv 3)))
    (pss_cons (ps_if (pt_cmpR op_eq (pe_callB call_len_seq (by rfl) T.len (by decide +kernel) (pa_cons (pv 7) pa_nil)) pe_int (nomark _))
    (pss_one (ps_ret (pe_tup (pa_cons pe_str (pa_cons (pv 5) pa_nil)))))
    pss_nil)
    (pss_one (ps_expr (pe_bm PySem.F.plainAttrs_list PySem.F.slot_list_append PySem.F.type_list_append mt_append (pv 4) (pa_cons (pe_ix ix_list (pv 7) pe_int (fun _ _ => rfl)) pa_nil)))))))
    (pss_one (ps_ret (pe_tup (pa_cons pe_str (pa_cons (pv 4) pa_nil))))))))), ?_⟩
  refine ⟨_, rfl, _, rfl, n, l, ks, rfl, nn, Fk, Ok, few, fun H1 s1 => ?_⟩
  have kf1 := s1 _ _ kf
  refine ⟨_, rfl, fl, rfl, ⟨_, SqL.of kf1⟩, ?_⟩
  refine for_list (K := K) (a := fl) (xs := fs.map V.int) (fun i σ G => (∃ z3 : Option V, σ = [some (V.int n), some (V.ref l), some (V.ref fl), z3, none, none, none, none]) ∧ Same H G) ⟨⟨_, rfl⟩, s1⟩ (fun i σ G _ h => SqL.of (h.2 _ _ kf)) ?_ ?_
  · rintro i x σ G hi ⟨⟨z3, rfl⟩, sG⟩
    obtain ⟨y, ey, rfl⟩ := ints_at hi
    have b := lo y (List.mem_of_getElem? ey)
    exact ⟨_, rfl, _, rfl, y, n, rfl, b.1, b.2, ⟨_, rfl⟩, sG⟩
  rintro σ G ⟨⟨z3, rfl⟩, sG⟩
  refine ⟨Nat.zero_le _, fun B hB => ?_⟩
  have sB := sG.trans (same_upd (o := .lst []) hB)
  have BH := sG.free hB
  refine ⟨_, rfl, l, _, rfl, SqL.of (sB _ _ Fk.at_), ?_⟩
  refine for_enum (K := K) (a := l) (xs := refs ks) (fun i σ G => (∃ z3 z5 z6 z7 : Option V, σ = [some (V.int n), some (V.ref l), some (V.ref fl), z3, some (V.ref B), z5, z6, z7]) ∧ Same H G ∧ ∃ acc : List Int, G B = some (.lst (acc.map V.int)) ∧ acc.length = i ∧
    barGo fs 0 (worth ks) [] = barGo fs i ((worth ks).drop i) acc)
    ⟨⟨_, _, _, _, rfl⟩, sB, [], upd_same, rfl, rfl⟩ (fun i σ G h => SqL.of (h.2.1 _ _ Fk.at_)) ?_ ?_
  · rintro i x T σ G hi ⟨⟨z3, z5, z6, z7, rfl⟩, sG, acc, kB, la, eb⟩ hT
    obtain ⟨p, hp, rfl⟩ := refs_at hi
    have pm := List.mem_of_getElem? hp
    have li := (List.getElem?_eq_some_iff.mp hp).1
    have ten := (Ok.well p pm).few
    have sT := same_upd (o := .tup [.int (i : Nat), .ref p.1]) hT
    refine ⟨T, [.int (i : Nat), .ref p.1], rfl, SqT.of upd_same, rfl, _, _, rfl, _, _, rfl, rfl, ?_⟩
    have tp := sqt_same (sG.trans sT) (Fk.tups p pm)
    have kf2 := sT _ _ (sG _ _ kf)
    refine ⟨_, rfl, p.1, rfl, ⟨_, tp⟩, fun D hD => ?_⟩
    refine lc_tup (K := K) (a := p.1) (xs := p.2.map V.int) (fun j0 G' => G' = upd (upd G T (.tup [.int (i : Nat), .ref p.1])) D (.lst ((hitsL fs (p.2.take j0)).map V.int))) (by simp [hitsL]) (fun i G' _ h => by rw [h]; exact sqt_same (same_upd hD) tp) ?_ ?_
    · rintro j x G' hj rfl
      obtain ⟨y, ey, rfl⟩ := ints_at hj
      have jl := (List.getElem?_eq_some_iff.mp ey).1
      refine ⟨rfl, _, rfl, _, rfl, .inl ⟨fl, _, rfl, .inl (SqL.of (same_upd hD _ _ kf2)), rfl, flat_ints fs, _, rfl, ?_⟩⟩
      show (if inV (.int y) (fs.map V.int) = true then _ else _)
      rw [inV_ints]
      unfold hitsL
      rw [filt_snoc ey]
      refine ite2 (fun c2 => ?_) (fun c2 => ?_)
      · rw [if_pos c2]
        have lf := List.length_filter_le (fun x => decide (x ∈ fs)) (p.2.take j)
        refine ⟨_, rfl, _, upd_same, ?_, ?_⟩
        · rw [List.length_map]
          exact Nat.lt_of_le_of_lt (Nat.le_trans lf (show (p.2.take j).length ≤ 100 by rw [List.length_take]; omega)) (by decide)
        · rw [upd_upd, List.map_append]; rfl
      · rw [if_neg c2, List.append_nil]
    rintro G' rfl
    rw [List.length_map, List.take_length]
    have sD := same_upd (o := .lst ((hitsL fs p.2).map V.int)) hD
    refine ⟨_, rfl, D, _, rfl, .inl (SqL.of upd_same), rfl, _, rfl, ?_⟩
    rw [List.length_map, dec_ii]
    cases hh : hitsL fs p.2 with
    | nil =>
      rw [hh] at sD
      refine iteT' rfl ?_
      refine ⟨_, rfl, by show 2 ≤ sizeLine; decide, fun R hR => ?_⟩
      refine q (.ref R) _ (((sG.trans sT).trans sD).trans (same_upd hR)) ?_
      rw [eb, bar_stop (worth_at hp) hh]
      exact .tup (SqT.of upd_same) (.cons (.str _) (.cons (.int _) .nil))
    | cons d r =>
      rw [hh] at sD
      refine iteF' (by simp; omega) ?_
      refine ⟨_, rfl, .inl ⟨rfl, _, SqL.of (sD _ _ (sT _ _ kB))⟩, _, rfl, D, _, _, _, rfl, rfl, SqL.of upd_same, (show atI ((d :: r).map V.int) ((0 : Nat) : Int) = _ from atI_nat rfl), B, _, _, rfl, rfl, sD _ _ (sT _ _ kB), by rw [List.length_map]; exact Nat.lt_of_lt_of_le (show acc.length < 100 by omega) (by decide), ?_⟩
      refine ⟨⟨_, _, _, _, rfl⟩, fun b o e => (upd_ne (ne_of_none e BH)).trans (sD _ _ (sT _ _ (sG _ _ e))), acc ++ [d], by rw [upd_same, List.map_append]; rfl, by rw [List.length_append, la]; rfl, ?_⟩
      rw [eb, bar_next (worth_at hp) hh]
  · rintro σ G ⟨⟨z3, z5, z6, z7, rfl⟩, sG, acc, kB, la, eb⟩
    refine ⟨_, rfl, by show 2 ≤ sizeLine; decide, fun R hR => ?_⟩
    refine q (.ref R) _ (sG.trans (same_upd hR)) ?_
    have e1 : (refs ks).length = (worth ks).length := by unfold refs worth; rw [List.length_map, List.length_map]
    rw [eb, e1, bar_end]
    exact .tup (SqT.of upd_same) (.cons (.str _) (.cons (.lst (SqL.of (same_upd hR _ _ kB)) (dps_ints acc)) .nil))
end

end G0
namespace G0
open PySem PySem.Spec PyProof.Rows L2
section
variable {P : Program} {w : World} {K : PySem.W.Frag} {mg : Str → Option Value} {base : Heap}
theorem dec_str {a b : Str} : decide (V.str a = V.str b) = decide (a = b) := decide_eq_decide.mpr ⟨fun h => by cases h; rfl, fun h => by rw [h]⟩
def spWhole : Sp := fun vs H Q _ => ∃ x : Int, vs = [.int x] ∧ Q (.bl true) H
theorem sc_law_whole : FnScope ["thing"] ["thing"] (defScope s_law_whole) :=
  ⟨rfl, rfl, rfl, by decide +kernel, rfl, by decide +kernel, by decide +kernel⟩
theorem ok_whole (F : Fn K mg "_law_whole" s_law_whole) (T : BlF mg) : Cal P w K mg base "_law_whole" 1 ["thing"] spWhole := by
  refine cal_of F sc_law_whole
    (fun _ _ _ _ _ _ us hl => match us, hl with | [_], _ => rfl) ?_ ?_
  · rintro vs H Q E ⟨x, rfl, _⟩
    rfl
  rintro f cdv A outer s H vs Q E free hr ⟨x, rfl, q⟩
  refine ⟨_, (pss_one (ps_ret (pe_and (pe_callB call_isi (by rfl) T.isinstance (by decide +kernel) (pa_cons (pv 0) (pa_cons (pe_bltn (v := .ty "int") (by rfl) T.int (by decide +kernel) rfl) pa_nil))) (pe_one (pe_not (pe_callB call_isi (by rfl) T.isinstance (by decide +kernel) (pa_cons (pv 0) (pa_cons (pe_bltn (v := .ty "bool") (by rfl) T.bool (by decide +kernel) rfl) pa_nil)))))))), ?_⟩
  exact ⟨_, rfl, _, .ty "int", _, _, _, rfl, .ty _, .base (.int x), kit_ty (r := true) (by decide +kernel), _, rfl, iteT' rfl ⟨_, rfl, _, .ty "bool", _, _, _, rfl, .ty _, .base (.int x), kit_ty (r := false) (by decide +kernel), _, rfl, q⟩⟩
def spBDue (K : PySem.W.Frag) : Sp := fun vs H Q _ => ∃ (n : Int) (l fl : Addr) (ks : List (Addr × List Int)) (fs : List Int), vs = [.ref l, .ref fl] ∧ Fam K H l ks ∧ FamOk n ks ∧ ks.length ≤ 50 ∧ H fl = some (.lst (fs.map V.int)) ∧
  ∀ r H', Same H H' → Dp K H' r (barGo fs 0 (worth ks) []) → Q r H'
theorem sc_law_due : FnScope ["sets", "fallen", "bar", "at", "hit", "seat"] ["sets", "fallen"] (defScope s_law_due) :=
  ⟨rfl, rfl, rfl, by decide +kernel, rfl, by decide +kernel, by decide +kernel⟩
theorem ok_bdue (F : Fn K mg "_law_due" s_law_due) (T : BlF mg) : Cal P w K mg base "_law_due" 1 ["sets", "fallen"] (spBDue K) := by
  refine cal_of F sc_law_due
    (fun _ _ _ _ _ _ us hl => match us, hl with | [_, _], _ => rfl) ?_ ?_
  · rintro vs H Q E ⟨n, l, fl, ks, fs, rfl, _⟩
    rfl
  rintro f cdv A outer s H vs Q E free hr ⟨n, l, fl, ks, fs, rfl, Fk, Ok, few, kf, q⟩
  refine ⟨_, (pss_cons (ps_set (i := 2) sc_law_due.nd rfl (Or.inl rfl) (pe_lst pa_nil))
    (pss_cons (ps_for PassesOwn.never rfl (pi_range1 (by rfl) T.range (pa_cons (pe_callB call_len_seq (by rfl) T.len (by decide +kernel) (pa_cons (pv 0) pa_nil)) pa_nil)) (pg_name (i := 3) sc_law_due.nd rfl (Or.inl rfl))
    (pss_cons (ps_setLc (i := 4) (own := [("seat", 5)]) (g := gName 5)  (by rfl) sc_law_due.nd rfl rfl (sw_true rfl rfl rfl (by decide +kernel)) (pi_tup (pe_ix ix_list (pv 0) (pv 3) (fun _ _ => rfl))) (blkOk_by (N := ["sets", "fallen", "bar", "at", "hit", "seat"]) (sc := defScope s_law_due) (by decide +kernel)) (fun _ _ _ _ _ => pg_name (i := 5) sc_law_due.nd rfl (Or.inl rfl)) (fun _ _ _ _ _ => pts_one (pt_cmpR (u_inK K) (pv 5) (pv 1) (by rfl))) (fun _ _ _ _ _ => (pv 5)))
    (pss_cons (ps_if (pt_cmpR (u_eq (u64 hr)) (pv 4) (pe_lst pa_nil) (nomark _))
    (pss_one (ps_ret (pe_tup (pa_cons pe_str (pa_cons (pv 3) pa_nil)))))
    pss_nil)
    (pss_one (ps_expr (pe_bm PySem.F.plainAttrs_list PySem.F.slot_list_append PySem.F.type_list_append mt_append (pv 2) (pa_cons (pe_callB (cr_min (by rfl)) (by rfl) T.min (by decide +kernel) (pa_cons (pv 4) pa_nil)) pa_nil)))))))
    (pss_one (ps_ret (pe_tup (pa_cons pe_str (pa_cons (pv 2) pa_nil))))))), ?_⟩
  have lr : (refs ks).length = ks.length := by unfold refs; rw [List.length_map]
  refine ⟨Nat.zero_le _, fun B hB => ?_⟩
  have sB := same_upd (o := .lst []) hB
  refine ⟨_, rfl, l, _, rfl, .inl (SqL.of (sB _ _ Fk.at_)), _, rfl, by omega, by omega, ?_⟩
  refine for_range (lo := 0) (n := _) (fun i σ G => (∃ z3 z4 z5 : Option V, σ = [some (V.ref l), some (V.ref fl), some (V.ref B), z3, z4, z5]) ∧ Same H G ∧ ∃ acc : List Int, G B = some (.lst (acc.map V.int)) ∧ acc.length = i ∧
    barGo fs 0 (worth ks) [] = barGo fs i ((worth ks).drop i) acc)
    ⟨⟨_, _, _, rfl⟩, sB, [], upd_same, rfl, rfl⟩ ?_ ?_
  · rintro i σ G hi ⟨⟨z3, z4, z5, rfl⟩, sG, acc, kB, la, eb⟩
    have li : i < ks.length := by omega
    obtain ⟨p, hp⟩ : ∃ p, ks[i]? = some p := ⟨_, List.getElem?_eq_getElem li⟩
    have pm := List.mem_of_getElem? hp
    have ten := (Ok.well p pm).few
    have e9 : (0 : Int) + (i : Int) = ((i : Nat) : Int) := by omega
    have tp := sqt_same sG (Fk.tups p pm)
    have at_ : atI (refs ks) (0 + (i : Int)) = some (.ref p.1) := by
      rw [e9]
      exact atI_nat (by unfold refs; rw [List.getElem?_map, hp]; rfl)
    refine ⟨_, rfl, _, rfl, l, _, _, _, rfl, rfl, SqL.of (sG _ _ Fk.at_), at_, p.1, rfl, ⟨_, tp⟩, fun D hD => ?_⟩
    refine lc_tup (K := K) (a := p.1) (xs := p.2.map V.int) (fun j0 G' => G' = upd (G) D (.lst ((hitsL fs (p.2.take j0)).map V.int))) (by simp [hitsL]) (fun i G' _ h => by rw [h]; exact sqt_same (same_upd hD) tp) ?_ ?_
    · rintro j x G' hj rfl
      obtain ⟨y, ey, rfl⟩ := ints_at hj
      have jl := (List.getElem?_eq_some_iff.mp ey).1
      refine ⟨rfl, _, rfl, _, rfl, .inl ⟨fl, _, rfl, .inl (SqL.of (same_upd hD _ _ (sG _ _ kf))), rfl, flat_ints fs, _, rfl, ?_⟩⟩
      show (if inV (.int y) (fs.map V.int) = true then _ else _)
      rw [inV_ints]
      unfold hitsL
      rw [filt_snoc ey]
      refine ite2 (fun c2 => ?_) (fun c2 => ?_)
      · rw [if_pos c2]
        have lf := List.length_filter_le (fun x => decide (x ∈ fs)) (p.2.take j)
        refine ⟨_, rfl, _, upd_same, ?_, ?_⟩
        · rw [List.length_map]
          exact Nat.lt_of_le_of_lt (Nat.le_trans lf (show (p.2.take j).length ≤ 100 by rw [List.length_take]; omega)) (by decide)
        · rw [upd_upd, List.map_append]; rfl
      · rw [if_neg c2, List.append_nil]
    rintro G' rfl
    rw [List.length_map, List.take_length]
    have sD := same_upd (o := .lst ((hitsL fs p.2).map V.int)) hD
    refine ⟨_, rfl, Nat.zero_le _, fun e he => ?_⟩
    have sE := same_upd (o := .lst []) he
    refine .inr ⟨.list ((hitsL fs p.2).map PyData.int), .list [], dp_ints (sE _ _ upd_same), .lst (SqL.of upd_same) .nil, shaped_ints _, by decide, _, rfl, ?_⟩
    cases hh : hitsL fs p.2 with
    | nil =>
      rw [hh] at sD sE
      refine iteT' (by decide) ?_
      refine ⟨_, rfl, by show 2 ≤ sizeLine; decide, fun R hR => ?_⟩
      refine q (.ref R) _ (((sG.trans sD).trans sE).trans (same_upd hR)) ?_
      rw [eb, bar_stop (worth_at hp) hh]
      show Dp K _ (.ref R) (.tuple [.str "whole", .int ((i : Nat) : Int)])
      rw [e9]
      exact .tup (SqT.of upd_same) (.cons (.str _) (.cons (.int _) .nil))
    | cons d r =>
      rw [hh] at sD sE
      refine iteF' (by simp [PyData.eqv, PyData.eqvAll]) ?_
      have kBe := sE _ _ (sD _ _ kB)
      refine ⟨_, rfl, .inl ⟨rfl, _, SqL.of kBe⟩, _, rfl, D, _, rfl, SqL.of (sE _ _ upd_same), by simp, fun m mem least => ?_⟩
      have up : (d :: r).Pairwise (· < ·) := by rw [← hh]; exact (Ok.well p pm).up.filter _
      have em : m = d := by
        rcases List.mem_cons.mp mem with h | h
        · exact h
        · have h1 := least d (List.mem_cons_self ..)
          have h2 := (List.pairwise_cons.mp up).1 m h
          omega
      subst em
      refine ⟨B, _, _, rfl, rfl, kBe, by rw [List.length_map]; exact Nat.lt_of_lt_of_le (show acc.length < 100 by omega) (by decide), ?_⟩
      refine ⟨⟨_, _, _, rfl⟩, fun b o e => (upd_ne (ne_of_none e hB)).trans (sE _ _ (sD _ _ (sG _ _ e))), acc ++ [m], by rw [upd_same, List.map_append]; rfl, by rw [List.length_append, la]; rfl, ?_⟩
      rw [eb, bar_next (worth_at hp) hh]
  · rintro σ G ⟨⟨z3, z4, z5, rfl⟩, sG, acc, kB, la, eb⟩
    refine ⟨_, rfl, by show 2 ≤ sizeLine; decide, fun R hR => ?_⟩
    refine q (.ref R) _ (sG.trans (same_upd hR)) ?_
    have e1 : ((((refs ks).length : Nat) : Int)).toNat = (worth ks).length := by unfold refs worth; rw [List.length_map, List.length_map]; omega
    rw [eb, e1, bar_end]
    exact .tup (SqT.of upd_same) (.cons (.str _) (.cons (.lst (SqL.of (same_upd hR _ _ kB)) (dps_ints acc)) .nil))
/-! ### _law_right -/
def spBRight (K : PySem.W.Frag) : Sp := fun vs H Q _ => ∃ (n : Int) (l fl : Addr) (ks : List (Addr × List Int)) (fs : List Int), vs = [.int n, .ref l, .ref fl] ∧ (1 ≤ n ∧ n ≤ 60) ∧ Fam K H l ks ∧ FamOk n ks ∧ ks.length ≤ 50 ∧ H fl = some (.lst (fs.map V.int)) ∧
  (∀ x ∈ fs, 0 ≤ x ∧ x < n) ∧ fs.length ≤ 50 ∧ ∀ H', Same H H' → Q (.bl true) H'
theorem two_at {H : Hp} {r : V} {z : Str} {d : PyData} (h : Dp K H r (.tuple [.str z, d])) : ∃ t v, r = .ref t ∧ SqT K H t [.str z, v] ∧ Dp K H v d := by
  cases h with
  | tup hs ha =>
    cases ha with
    | cons h1 h2 =>
      cases h1
      cases h2 with
      | cons h3 h4 =>
        cases h4
        exact ⟨_, _, rfl, hs, h3⟩
theorem ints_dp {H : Hp} : ∀ {vs : List V} {ns : List Int}, DpAll K H vs (ns.map PyData.int) → vs = ns.map V.int
  | [], [], _ => rfl
  | [], _ :: _, h => by cases h
  | _ :: _, [], h => by cases h
  | v :: vs, n :: ns, h => by
    cases h with
    | cons h1 h2 =>
      cases h1
      rw [ints_dp h2]
      rfl
theorem lst_dp {H : Hp} {v : V} {ns : List Int} (h : Dp K H v (.list (ns.map PyData.int))) : ∃ a, v = .ref a ∧ SqL K H a (ns.map V.int) := by
  cases h with
  | lst hs ha => exact ⟨_, rfl, by rw [ints_dp ha] at hs; exact hs⟩
theorem ty_sqt {H : Hp} {a : Addr} {xs : List V} (h : SqT K H a xs) : TyX K H (.ref a) (.type "tuple") := by
  rcases h with (h | ⟨o, h⟩) | ⟨o, its, n, h1, h2, _⟩
  · exact .base (.tup h)
  · exact .fTuple h
  · exact .kTuple h1 h2
theorem ty_sql {H : Hp} {a : Addr} {xs : List V} (h : SqL K H a xs) : TyX K H (.ref a) (.type "list") := by
  rcases h with (h | ⟨o, h⟩) | ⟨o, its, n, h1, h2, _⟩
  · exact .base (.lst h)
  · exact .base (.frz h)
  · exact .kList h1 h2
def bothD (W : List (List Int)) (fs : List Int) : PyData := .list [.list (W.map tuD), .list (fs.map .int)]
theorem both_eqv (W : List (List Int)) (fs : List Int) : PyData.eqv (bothD W fs) (bothD W fs) = true := by simp [bothD, PyData.eqv, PyData.eqvAll, eqv_is, eqv_tus]
theorem both_shaped (W : List (List Int)) (fs : List Int) : SeqAt.shaped (bothD W fs) = true := by
  show ((bothD W fs).canLay0 && decide ((bothD W fs).depth ≤ 64)) = true
  have := deep_tus W
  simp [bothD, PyData.canLay0, PyData.canLayAll0, PyData.depth, PyData.depthAll, lay_ints, deep_ints, lay_tus]
  omega
theorem sc_law_right : FnScope ["seats", "sets", "fallen", "due", "one", "kept", "found", "seat"] ["seats", "sets", "fallen"] (defScope s_law_right) :=
  ⟨rfl, rfl, rfl, by decide +kernel, rfl, by decide +kernel, by decide +kernel⟩
theorem ok_bright (F : Fn K mg "_law_right" s_law_right) (T : BlF mg) (C_due : Cal P w K mg base "_law_due" 1 ["sets", "fallen"] (spBDue K)) (C_whole : Cal P w K mg base "_law_whole" 1 ["thing"] spWhole)
    (Cbarred : Cal P w K mg base "barred" 5 ["seats", "sets", "fallen"] (spBarred K)) : Cal P w K mg base "_law_right" 6 ["seats", "sets", "fallen"] (spBRight K) := by
  refine cal_of F sc_law_right
    (fun _ _ _ _ _ _ us hl => match us, hl with | [_, _, _], _ => rfl) ?_ ?_
  · rintro vs H Q E ⟨n, l, fl, ks, fs, rfl, _⟩
    rfl
  rintro f cdv A outer s H vs Q E free hr ⟨n, l, fl, ks, fs, rfl, nn, Fk, Ok, few, kf, lo, ff, q⟩
  refine ⟨_, (pss_cons (ps_set (i := 3) sc_law_right.nd rfl (Or.inl rfl) (pe_cal C_due free (hr.mono (by decide)) (pa_cons (pv 1) (pa_cons (pv 2) pa_nil))))
    (pss_cons (ps_for PassesOwn.never rfl (pi_tup (pe_tup (pa_cons (pe_callTy call_list_of (by rfl) T.list (by decide +kernel) (pa_cons (pv 2) pa_nil)) (pa_cons (pe_revL (pv 2)) pa_nil)))) (pg_name (i := 4) sc_law_right.nd rfl (Or.inl rfl))
    (pss_cons (ps_set (i := 5) sc_law_right.nd rfl (Or.inl rfl) (pe_lst (pa_cons (pe_callTy call_list_of (by rfl) T.list (by decide +kernel) (pa_cons (pv 1) pa_nil)) (pa_cons (pe_callTy call_list_of (by rfl) T.list (by decide +kernel) (pa_cons (pv 4) pa_nil)) pa_nil))))
    (pss_cons (ps_set (i := 6) sc_law_right.nd rfl (Or.inl rfl) (pe_cal Cbarred free (hr.mono (by decide)) (pa_cons (pv 0) (pa_cons (pv 1) (pa_cons (pv 4) pa_nil)))))
    (pss_cons (ps_if (PW.pt (pw_or (pt_cmpR (op_neD (u64 hr)) (pe_lst (pa_cons (pv 1) (pa_cons (pv 4) pa_nil))) (pv 5) (nomark _)) (pw_or (pt_not (pt_val (pe_callB call_isi (by rfl) T.isinstance (by decide +kernel) (pa_cons (pv 6) (pa_cons (pe_bltn (v := .ty "tuple") (by rfl) T.tuple (by decide +kernel) rfl) pa_nil))))) (pw_or1 (pt_cmpR (op_neD (u64 hr)) (pv 6) (pv 3) (nomark _))))))
    (pss_one (ps_ret pe_bl))
    pss_nil)
    (pss_cons (ps_if (PW.pt (pw_and (pt_cmpR op_eq (pe_ix ix_tup (pv 3) pe_int (fun _ _ => rfl)) pe_str (nomark _)) (pw_and1 (pt_not (pt_val (pe_cal C_whole free (hr.mono (by decide)) (pa_cons (pe_ix ix_tup (pv 6) pe_int (fun _ _ => rfl)) pa_nil)))))))
    (pss_one (ps_ret pe_bl))
    pss_nil)
    (pss_one (ps_if (pt_cmpR op_eq (pe_ix ix_tup (pv 3) pe_int (fun _ _ => rfl)) pe_str (nomark _))
    (pss_one (ps_if (PW.pt (pw_or (pt_not (pt_val (pe_callB call_isi (by rfl) T.isinstance (by decide +kernel) (pa_cons (pe_ix ix_tup (pv 6) pe_int (fun _ _ => rfl)) (pa_cons (pe_bltn (v := .ty "list") (by rfl) T.list (by decide +kernel) rfl) pa_nil))))) (pw_or1 (pt_cmpR (op_neD (u64 hr)) (pe_lc (own := [("seat", 7)]) (g := gName 7)  (by rfl) sc_law_right.nd (pi_list (pe_ix ix_tup (pv 6) pe_int (fun _ _ => rfl))) (blkOk_by (N := ["seats", "sets", "fallen", "due", "one", "kept", "found", "seat"]) (sc := defScope s_law_right) (by decide +kernel)) (fun _ _ _ _ _ => pg_name (i := 7) sc_law_right.nd rfl (Or.inl rfl)) (fun _ _ _ _ _ => pts_one (pt_not (pt_val (pe_cal C_whole free (hr.mono (by decide)) (pa_cons (pv 7) pa_nil))))) (fun _ _ _ _ _ => pe_int)) (pe_lst pa_nil) (nomark _)))))
    (pss_one (ps_ret pe_bl))
    pss_nil))
    pss_nil)))))))
    (pss_one (ps_ret pe_bl)))), ?_⟩
  refine ⟨_, rfl, _, rfl, n, l, fl, ks, fs, rfl, Fk, Ok, few, kf, fun due H1 s1 dd => ?_⟩
  have kf1 := s1 _ _ kf
  refine ⟨_, rfl, fl, _, rfl, .inl (SqL.of kf1), fun a1 h1 => ?_⟩
  have t1 := same_upd (o := .lst (fs.map V.int)) h1
  refine ⟨_, rfl, fl, _, rfl, SqL.of (t1 _ _ kf1), fun a2 h2 => ⟨by show 2 ≤ sizeLine; decide, fun tt htt => ?_⟩⟩
  have t2 := t1.trans (same_upd (o := .lst (fs.map V.int).reverse) h2)
  have t3 := t2.trans (same_upd (o := .tup [.ref a1, .ref a2]) htt)
  have ka1 := same_upd (o := .tup [.ref a1, .ref a2]) htt _ _ (same_upd (o := .lst (fs.map V.int).reverse) h2 _ _ (upd_same (H := H1) (a := a1) (o := .lst (fs.map V.int))))
  have ka2 := same_upd (o := .tup [.ref a1, .ref a2]) htt _ _ (upd_same (H := upd H1 a1 (.lst (fs.map V.int))) (a := a2) (o := .lst (fs.map V.int).reverse))
  have ktt := upd_same (H := upd (upd H1 a1 (.lst (fs.map V.int))) a2 (.lst (fs.map V.int).reverse)) (a := tt) (o := .tup [.ref a1, .ref a2])
  obtain ⟨G0, hG0⟩ : ∃ G0, G0 = upd (upd (upd H1 a1 (.lst (fs.map V.int))) a2 (.lst (fs.map V.int).reverse)) tt (.tup [.ref a1, .ref a2]) := ⟨_, rfl⟩
  rw [← hG0] at ka1 ka2 ktt t3
  rw [← hG0]
  clear hG0
  rw [← List.map_reverse] at ka2
  refine ⟨tt, rfl, ⟨_, SqT.of ktt⟩, ?_⟩
  refine for_tup (K := K) (a := tt) (xs := [.ref a1, .ref a2]) (fun j σ G => (∃ z4 z5 z6 : Option V, σ = [some (V.int n), some (V.ref l), some (V.ref fl), some due, z4, z5, z6, none]) ∧ Same G0 G) ⟨⟨_, _, _, rfl⟩, Same.refl _⟩ (fun i σ G _ h => SqT.of (h.2 _ _ ktt)) ?_ ?_
  · rintro j x σ G hj ⟨⟨z4, z5, z6, rfl⟩, sG⟩
    obtain ⟨aj, gs, rfl, kaj, mem, lgs⟩ : ∃ aj gs, x = .ref aj ∧ G0 aj = some (.lst ((gs : List Int).map V.int)) ∧ (∀ y, y ∈ gs ↔ y ∈ fs) ∧ gs.length = fs.length := by
      match j, hj with
      | 0, hj => exact ⟨a1, fs, by simpa using hj.symm, ka1, fun y => Iff.rfl, rfl⟩
      | 1, hj => exact ⟨a2, fs.reverse, by simpa using hj.symm, ka2, fun y => by simp, by simp⟩
      | j + 2, hj => simp at hj
    have sHG := (s1.trans t3).trans sG
    have FG := Fk.same sHG
    have kjG := sG _ _ kaj
    refine ⟨_, rfl, l, _, rfl, .inl (SqL.of FG.at_), fun b1 hb1 => ?_⟩
    have u1 := same_upd (o := .lst (refs ks)) hb1
    refine ⟨_, rfl, aj, _, rfl, .inl (SqL.of (u1 _ _ kjG)), fun b2 hb2 => ⟨by show 2 ≤ sizeLine; decide, fun kp hkp => ?_⟩⟩
    have u2 := u1.trans (same_upd (o := .lst (gs.map V.int)) hb2)
    have u3 := u2.trans (same_upd (o := .lst [.ref b1, .ref b2]) hkp)
    have F3 := FG.same u3
    have dk : Dp K _ (.ref kp) (bothD (worth ks) gs) := .lst (SqL.of upd_same) (.cons (.lst (SqL.of (same_upd hkp _ _ (same_upd hb2 _ _ upd_same))) (dps_tups fun q m => sqt_same u3 (FG.tups q m))) (.cons (.lst (SqL.of (same_upd hkp _ _ upd_same)) (dps_ints gs)) .nil))
    refine ⟨_, rfl, _, rfl, _, rfl, n, l, aj, ks, gs, rfl, nn, F3, Ok, few, u3 _ _ kjG, fun y m => lo y ((mem y).mp m), fun r G2 s2 dr => ?_⟩
    have F4 := F3.same s2
    rw [bar_same mem] at dr
    have dd2 := dp_same s2 _ _ (dp_same ((t3.trans sG).trans u3) _ _ dd)
    have bf := bar_form fs (worth ks) 0 []
    generalize hb : barGo fs 0 (worth ks) [] = B at dr dd2 bf
    refine ⟨_, rfl, _, rfl, by show 2 ≤ sizeLine; decide, fun b3 hb3 => ?_⟩
    have u4 := same_upd (o := .lst [.ref l, .ref aj]) hb3
    refine ⟨_, rfl, bothD (worth ks) gs, bothD (worth ks) gs, .lst (SqL.of upd_same) (.cons (F4.same u4).dp (.cons (.lst (SqL.of (u4 _ _ (s2 _ _ (u3 _ _ kjG)))) (dps_ints gs)) .nil)), dp_same (s2.trans u4) _ _ dk, both_shaped _ _, both_shaped _ _, _, rfl, ?_⟩
    refine iteF' (by rw [both_eqv]; rfl) ?_
    have dr4 := dp_same u4 _ _ dr
    have dd4 := dp_same u4 _ _ dd2
    obtain ⟨z, vd, eB⟩ : ∃ z vd, B = .tuple [.str z, vd] := by
      cases bf with
      | whole i => exact ⟨_, _, rfl⟩
      | bar xs => exact ⟨_, _, rfl⟩
    have dr5 := dr4
    have dd5 := dd4
    rw [eB] at dr5 dd5
    obtain ⟨tr, vr, rfl, qr, dvr⟩ := two_at dr5
    obtain ⟨td, vdd, rfl, qd, dvd⟩ := two_at dd5
    have sE := ((u3.trans s2).trans u4)
    refine ⟨_, rfl, _, .ty "tuple", _, _, _, rfl, .ty _, ty_sqt qr, kit_ty (r := true) (by decide +kernel), _, rfl, ?_⟩
    refine iteF' rfl ?_
    refine ⟨_, rfl, _, rfl, B, B, dr4, dd4, bf.shaped, bf.shaped, _, rfl, ?_⟩
    refine iteF' (by rw [bf.eqv]; rfl) ?_
    refine ⟨_, rfl, td, _, _, _, rfl, rfl, qd, rfl, rfl, _, rfl, ?_⟩
    rw [dec_str]
    cases bf with
    | whole i =>
      cases eB
      cases dvr
      refine iteT' (by decide +kernel) ?_
      refine ⟨_, rfl, tr, _, _, _, rfl, rfl, qr, rfl, i, rfl, _, rfl, ?_⟩
      refine iteF' rfl ?_
      refine ⟨_, rfl, td, _, _, _, rfl, rfl, qd, rfl, rfl, _, rfl, ?_⟩
      rw [dec_str]
      refine iteF' (by decide +kernel) ?_
      exact ⟨⟨_, _, _, rfl⟩, sG.trans sE⟩
    | bar xs =>
      cases eB
      obtain ⟨ar, rfl, qar⟩ := lst_dp dvr
      refine iteF' (by decide +kernel) ?_
      refine iteF' rfl ?_
      refine ⟨_, rfl, td, _, _, _, rfl, rfl, qd, rfl, rfl, _, rfl, ?_⟩
      rw [dec_str]
      refine iteT' (by decide +kernel) ?_
      refine ⟨_, rfl, tr, _, _, _, rfl, rfl, qr, rfl, _, .ty "list", _, _, _, rfl, .ty _, ty_sql qar, kit_ty (r := true) (by decide +kernel), _, rfl, ?_⟩
      refine iteF' rfl ?_
      refine ⟨_, rfl, tr, _, _, _, rfl, rfl, qr, rfl, ar, rfl, ⟨_, qar⟩, fun D hD => ?_⟩
      refine lc_list (K := K) (a := ar) (xs := xs.map V.int) (fun j0 G' => G' = upd (upd G2 b3 (.lst [.ref l, .ref aj])) D (.lst [])) rfl (fun i G' _ h => by rw [h]; exact (same_upd hD).seq qar) ?_ ?_
      · rintro k y G' hk rfl
        obtain ⟨y', ey, rfl⟩ := ints_at hk
        exact ⟨rfl, _, rfl, y', rfl, _, rfl, iteF' rfl rfl⟩
      rintro G' rfl
      have sD := same_upd (o := .lst []) hD
      refine ⟨Nat.zero_le _, fun e0 he0 => ?_⟩
      have sE0 := same_upd (o := .lst []) he0
      refine ⟨.list [], .list [], .lst (SqL.of (sE0 _ _ upd_same)) .nil, .lst (SqL.of upd_same) .nil, by decide, by decide, _, rfl, ?_⟩
      refine iteF' (by decide) ?_
      exact ⟨⟨_, _, _, rfl⟩, ((sG.trans sE).trans sD).trans sE0⟩
  · rintro σ G ⟨⟨z4, z5, z6, rfl⟩, sG⟩
    exact q _ ((s1.trans t3).trans sG)
end

end G0
namespace G0
open PySem PySem.Spec PyProof.Rows L2
section
variable {P : Program} {w : World} {K : PySem.W.Frag} {mg : Str → Option Value} {base : Heap}
/-! ### the law -/
def spLaw (K : PySem.W.Frag) : Sp := fun vs H Q _ => ∃ (a : Addr) (ns : List Int), vs = [.ref a] ∧ SqL K H a (ns.map V.int) ∧ ns.length ≤ 63 ∧ ∀ H', Q (.bl true) H'
theorem sc_law : FnScope ["script", "pot", "turn", "seats", "sets", "fallen", "k", "seat"] ["script"] (defScope s_law) :=
  ⟨rfl, rfl, rfl, by decide +kernel, rfl, by decide +kernel, by decide +kernel⟩
theorem ok_law (F : Fn K mg "law" s_law) (T : BlF mg) (C_take : Cal P w K mg base "_law_take" 2 ["script", "pot", "many"] (spTake K)) (C_many_seats : Cal P w K mg base "_law_many_seats" 3 ["script", "pot"] (spMany K))
    (C_family : Cal P w K mg base "_law_family" 4 ["script", "pot", "seats", "most"] (spFamily K)) (C_right : Cal P w K mg base "_law_right" 6 ["seats", "sets", "fallen"] (spBRight K)) : Cal P w K mg base "law" 7 ["script"] (spLaw K) := by
  refine cal_of F sc_law
    (fun _ _ _ _ _ _ us hl => match us, hl with | [_], _ => rfl) ?_ ?_
  · rintro vs H Q E ⟨a, ns, rfl, _⟩
    rfl
  rintro f cdv A outer s' H vs Q E free hr ⟨s, ns, rfl, hS, l63, q⟩
  refine ⟨_, (pss_cons (ps_set (i := 1) sc_law.nd rfl (Or.inl rfl) (pe_lst (pa_cons pe_int (pa_cons pe_int pa_nil))))
    (pss_cons (ps_for PassesOwn.never rfl (pi_range1 (by rfl) T.range (pa_cons pe_int pa_nil)) (pg_name (i := 2) sc_law.nd rfl (Or.inl rfl))
    (pss_cons (ps_set (i := 3) sc_law.nd rfl (Or.inl rfl) (pe_cal C_many_seats free (hr.mono (by decide)) (pa_cons (pv 0) (pa_cons (pv 1) pa_nil))))
    (pss_cons (ps_set (i := 4) sc_law.nd rfl (Or.inl rfl) (pe_cal C_family free (hr.mono (by decide)) (pa_cons (pv 0) (pa_cons (pv 1) (pa_cons (pv 3) (pa_cons pe_int pa_nil))))))
    (pss_cons (ps_set (i := 5) sc_law.nd rfl (Or.inl rfl) (pe_lst pa_nil))
    (pss_cons (ps_for PassesOwn.never rfl (pi_range1 (by rfl) T.range (pa_cons (pe_cal C_take free (hr.mono (by decide)) (pa_cons (pv 0) (pa_cons (pv 1) (pa_cons pe_int pa_nil)))) pa_nil)) (pg_name (i := 6) sc_law.nd rfl (Or.inl rfl))
    (pss_cons (ps_set (i := 7) sc_law.nd rfl (Or.inl rfl) (pe_cal C_take free (hr.mono (by decide)) (pa_cons (pv 0) (pa_cons (pv 1) (pa_cons (pv 3) pa_nil)))))
    (pss_one (ps_if (pt_cmpR u_notin (pv 7) (pv 5) (by rfl))
    (pss_cons (ps_if (pt_not (pt_val (pe_cal C_right free (hr.mono (by decide)) (pa_cons (pv 3) (pa_cons (pv 4) (pa_cons (pv 5) pa_nil))))))
    (pss_one (ps_ret pe_bl))
    pss_nil)
    (pss_one (ps_expr (pe_bm PySem.F.plainAttrs_list PySem.F.slot_list_insert PySem.F.type_list_insert mt_insert (pv 5) (pa_cons (pe_cal C_take free (hr.mono (by decide)) (pa_cons (pv 0) (pa_cons (pv 1) (pa_cons (pe_op op_add (pe_callB call_len_seq (by rfl) T.len (by decide +kernel) (pa_cons (pv 5) pa_nil)) pe_int) pa_nil)))) (pa_cons (pv 7) pa_nil))))))
    pss_nil))))
    (pss_cons (ps_if (pt_not (pt_val (pe_cal C_right free (hr.mono (by decide)) (pa_cons (pv 3) (pa_cons (pv 4) (pa_cons (pv 5) pa_nil))))))
    (pss_one (ps_ret pe_bl))
    pss_nil)
    (pss_one (ps_if (pt_cmpR op_ge (pe_ix ix_list (pv 1) pe_int (fun _ _ => rfl)) (pe_callB call_len_seq (by rfl) T.len (by decide +kernel) (pa_cons (pv 0) pa_nil)) (nomark _))
    (pss_one (ps_ret pe_bl))
    pss_nil))))))))
    (pss_one (ps_ret pe_bl)))), ?_⟩
  refine ⟨by show 2 ≤ sizeLine; decide, fun p hp => ?_⟩
  have D0 : Fd K H s p ns 0 (upd H p (.lst [.int 0, .int 0])) := ⟨same_upd hp, hp, hS, _, upd_same, 0, 0, rfl, Nat.le_refl _, Int.le_refl _⟩
  refine ⟨_, rfl, by decide, by decide, ?_⟩
  refine for_range (lo := 0) (n := 63) (fun i σ G => (∃ z2 z3 z4 z5 z6 z7 : Option V, σ = [some (V.ref s), some (V.ref p), z2, z3, z4, z5, z6, z7]) ∧ Fd K H s p ns (400 * i) G) ⟨⟨_, _, _, _, _, _, rfl⟩, D0⟩ ?_ ?_
  · rintro i σ G hi ⟨⟨z2, z3, z4, z5, z6, z7, rfl⟩, D⟩
    refine ⟨_, rfl, _, rfl, H, s, p, ns, 400 * i, rfl, D, by omega, fun m G1 m0 m1 D1 c1 => ?_⟩
    refine ⟨_, rfl, _, rfl, _, rfl, H, s, p, ns, 400 * i + 2, m, rfl, D1, by omega, by omega, m1, fun l ks G2 hl D2 c2 Fk Ok lk => ?_⟩
    have lp := D1.ne hl
    refine ⟨Nat.zero_le _, fun fl hfl => ?_⟩
    have s3 := same_upd (o := .lst []) hfl
    have D3 := D2.same s3
    have F3 := Fk.same s3
    have fp := D2.ne hfl
    have lfl : l ≠ fl := ne_of_none Fk.at_ hfl
    have flH := D2.old.free hfl
    refine ⟨_, rfl, _, rfl, H, s, p, ns, 400 * i + 2 + 300, 13, rfl, D3, by omega, by decide, by decide, fun d y d0 d1 Y => ?_⟩
    have D4 := D3.put Y
    refine ⟨_, rfl, by omega, by omega, ?_⟩
    refine for_range (lo := 0) (n := d.toNat) (fun j σ G => (∃ z2 z6 z7 : Option V, σ = [some (V.ref s), some (V.ref p), z2, some (V.int m), some (V.ref l), some (V.ref fl), z6, z7]) ∧ Fam K G l ks ∧ ∃ fs : List Int, G fl = some (.lst (fs.map V.int)) ∧ (∀ x ∈ fs, 0 ≤ x ∧ x < m) ∧ fs.length ≤ j ∧
      Fd K H s p ns (400 * i + 303 + 2 * j) G) ⟨⟨_, _, _, rfl⟩, F3.chg D3.lst Chg.self lp, [], (upd_ne fp).trans upd_same, fun x m => by simp at m, Nat.le_refl _, D4⟩ ?_ ?_
    · rintro j σ G5 hj ⟨⟨z2, z6, z7, rfl⟩, F5, fs, k5, lo, lf, D5⟩
      refine ⟨_, rfl, _, rfl, _, rfl, H, s, p, ns, 400 * i + 303 + 2 * j, m, rfl, D5, by omega, by omega, wide12 (by omega) (by omega), fun x y x0 x1 Y => ?_⟩
      have D6 := D5.put Y
      have F6 := F5.chg D5.lst (Chg.self (o := .lst y)) lp
      have k6 := (upd_ne (o := .lst y) fp).trans k5
      refine ⟨_, rfl, _, rfl, .inl ⟨fl, _, rfl, .inl (SqL.of k6), rfl, flat_ints fs, _, rfl, ?_⟩⟩
      show (if (!inV (.int x) (fs.map V.int)) = true then _ else _)
      rw [inV_ints]
      refine ite2 (fun c => ?_) (fun c => ?_)
      · refine ⟨_, rfl, _, rfl, _, rfl, m, l, fl, ks, fs, rfl, ⟨m0, m1⟩, F6, Ok, by omega, k6, lo, by omega, fun G7 s7 => ?_⟩
        refine ⟨_, rfl, ?_⟩
        refine iteF' rfl ?_
        have D7 := D6.same s7
        have F7 := F6.same s7
        have k7 := s7 _ _ k6
        refine ⟨_, rfl, .inl ⟨rfl, _, SqL.of k7⟩, _, rfl, _, rfl, _, rfl, fl, _, rfl, .inl (SqL.of k7), _, _, rfl, rfl, H, s, p, ns, 400 * i + 303 + 2 * j + 1, _, rfl, D7, by omega, by omega, wide12 (by omega) (by rw [List.length_map]; omega), fun e ye e0 e1 Ye => ?_⟩
        have D8 := D7.put Ye
        have F8 := F7.chg D7.lst (Chg.self (o := .lst ye)) lp
        have k8 := (upd_ne (o := .lst ye) fp).trans k7
        refine ⟨_, rfl, fl, _, e, _, rfl, rfl, k8, by rw [List.length_map]; exact Nat.lt_of_lt_of_le (show fs.length < 100 by omega) (by decide), e0, by rw [List.length_map] at e1; omega, ?_⟩
        refine ⟨⟨_, _, _, rfl⟩, F8.chg ⟨_, k8⟩ Chg.self lfl, fs.take e.toNat ++ [x] ++ fs.drop e.toNat, ?_, fun z m => ?_, ?_, (D8.mono (by omega)).mut flH fp⟩
        · rw [upd_same, List.map_append, List.map_append, List.map_take, List.map_drop]
          rfl
        · rcases List.mem_append.mp m with m | m
          · rcases List.mem_append.mp m with m | m
            · exact lo z (List.mem_of_mem_take m)
            · rw [List.mem_singleton.mp m]; exact ⟨x0, x1⟩
          · exact lo z (List.mem_of_mem_drop m)
        · rw [List.length_append, List.length_append, List.length_take, List.length_drop, List.length_singleton]
          omega
      · exact ⟨⟨_, _, _, rfl⟩, F6, fs, k6, lo, by omega, D6.mono (by omega)⟩
    · rintro σ G5 ⟨⟨z2, z6, z7, rfl⟩, F5, fs, k5, lo, lf, D5⟩
      refine ⟨_, rfl, _, rfl, _, rfl, m, l, fl, ks, fs, rfl, ⟨m0, m1⟩, F5, Ok, by omega, k5, lo, by omega, fun G7 s7 => ?_⟩
      refine ⟨_, rfl, ?_⟩
      refine iteF' rfl ?_
      have D7 := D5.same s7
      obtain ⟨xs, kp, u, v, rfl, iu, v0⟩ := D7.at_
      have hS7 := D7.old.seq D7.sq
      refine ⟨_, rfl, p, _, _, _, rfl, rfl, SqL.of kp, rfl, _, rfl, s, _, rfl, .inl hS7, _, _, rfl, rfl, _, rfl, ?_⟩
      refine ite2 (fun c => ?_) (fun c => ?_)
      · exact q _
      · exact ⟨⟨_, _, _, _, _, _, rfl⟩, D7.mono (by omega)⟩
  · rintro σ G ⟨⟨z2, z3, z4, z5, z6, z7, rfl⟩, D⟩
    exact q _
end

end G0
namespace G0
open PySem PySem.Spec PyProof.Rows L2
theorem whole {P : Program} {w : World} {K : PySem.W.Frag} {mg : Str → Option Value} {base : Heap} (T : BlF mg) (Cs : BlC mg)
    (F_below : Fn K mg "is_below" s_is_below) (F_look : Fn K mg "look_at_seat" s_look_at_seat) (F_fault : Fn K mg "fault" s_fault) (F_looked : Fn K mg "looked" s_looked) (F_setf : Fn K mg "_set_fault" s_set_fault) (F_barred : Fn K mg "barred" s_barred)
    (F_wide : Fn K mg "_law_wide" s_law_wide) (F_take : Fn K mg "_law_take" s_law_take) (F_set : Fn K mg "_law_set" s_law_set) (F_many : Fn K mg "_law_many_seats" s_law_many_seats) (F_family : Fn K mg "_law_family" s_law_family)
    (F_whole : Fn K mg "_law_whole" s_law_whole) (F_due : Fn K mg "_law_due" s_law_due) (F_right : Fn K mg "_law_right" s_law_right) (F_law : Fn K mg "law" s_law) : Cal P w K mg base "law" 7 ["script"] (spLaw K) := by
  have B := ok_bel (P := P) (w := w) (base := base) F_below T
  have Tk := ok_take (P := P) (w := w) (base := base) F_take T (ok_wide F_wide)
  have S := ok_set (P := P) (w := w) (base := base) F_set T Tk
  exact ok_law F_law T Tk (ok_many F_many Tk) (ok_family F_family T Tk S)
    (ok_bright F_right T (ok_bdue F_due T) (ok_whole F_whole T) (ok_barred F_barred T (ok_looked F_looked T Cs (ok_fault F_fault T (ok_setf F_setf T B))) (ok_look F_look B)))
theorem all_mk {P : Program} {w : World} {K : PySem.W.Frag} {h : Heap} {mg : Str → Option Value} {fa : Addr}
    {f1 : Addr} {od1 an1 : Option Addr} {sl1 : Array (Option Value)} {oc1 kV1 dc1 pm1 cd1 ct1 : Value} {f2 : Addr} {od2 an2 : Option Addr} {sl2 : Array (Option Value)} {oc2 kV2 dc2 pm2 cd2 ct2 : Value} {f3 : Addr} {od3 an3 : Option Addr} {sl3 : Array (Option Value)} {oc3 kV3 dc3 pm3 cd3 ct3 : Value} {f4 : Addr} {od4 an4 : Option Addr} {sl4 : Array (Option Value)} {oc4 kV4 dc4 pm4 cd4 ct4 : Value} {f5 : Addr} {od5 an5 : Option Addr} {sl5 : Array (Option Value)} {oc5 kV5 dc5 pm5 cd5 ct5 : Value} {f6 : Addr} {od6 an6 : Option Addr} {sl6 : Array (Option Value)} {oc6 kV6 dc6 pm6 cd6 ct6 : Value} {f7 : Addr} {od7 an7 : Option Addr} {sl7 : Array (Option Value)} {oc7 kV7 dc7 pm7 cd7 ct7 : Value} {f8 : Addr} {od8 an8 : Option Addr} {sl8 : Array (Option Value)} {oc8 kV8 dc8 pm8 cd8 ct8 : Value} {f9 : Addr} {od9 an9 : Option Addr} {sl9 : Array (Option Value)} {oc9 kV9 dc9 pm9 cd9 ct9 : Value} {f10 : Addr} {od10 an10 : Option Addr} {sl10 : Array (Option Value)} {oc10 kV10 dc10 pm10 cd10 ct10 : Value} {f11 : Addr} {od11 an11 : Option Addr} {sl11 : Array (Option Value)} {oc11 kV11 dc11 pm11 cd11 ct11 : Value} {f12 : Addr} {od12 an12 : Option Addr} {sl12 : Array (Option Value)} {oc12 kV12 dc12 pm12 cd12 ct12 : Value} {f13 : Addr} {od13 an13 : Option Addr} {sl13 : Array (Option Value)} {oc13 kV13 dc13 pm13 cd13 ct13 : Value} {f14 : Addr} {od14 an14 : Option Addr} {sl14 : Array (Option Value)} {oc14 kV14 dc14 pm14 cd14 ct14 : Value} {f15 : Addr} {od15 an15 : Option Addr} {sl15 : Array (Option Value)} {oc15 kV15 dc15 pm15 cd15 ct15 : Value} {t1 t2 : Tok}
    (X : K.In h) (G : h.Ns mainGlobals mg) (hfa : mg "law" = some (.ref fa))
    (a1 : PySem.W.nsIn K mainGlobals "is_below" = some (some (.ref f1)))
    (l1 : K.lookup f1 = some ⟨oc1, od1, .func (PySem.W.fnOf "is_below" "is_below" (defArgs s_is_below) (defBody s_is_below) (defScope s_is_below) .none kV1 dc1 pm1 an1 cd1 ct1), sl1⟩)
    (c1 : PySem.W.codeIn K cd1 "is_below" = true)
    (k1 : PySem.W.keepIn K (.ref f1) = true)
    (a2 : PySem.W.nsIn K mainGlobals "look_at_seat" = some (some (.ref f2)))
    (l2 : K.lookup f2 = some ⟨oc2, od2, .func (PySem.W.fnOf "look_at_seat" "look_at_seat" (defArgs s_look_at_seat) (defBody s_look_at_seat) (defScope s_look_at_seat) .none kV2 dc2 pm2 an2 cd2 ct2), sl2⟩)
    (c2 : PySem.W.codeIn K cd2 "look_at_seat" = true)
    (k2 : PySem.W.keepIn K (.ref f2) = true)
    (a3 : PySem.W.nsIn K mainGlobals "fault" = some (some (.ref f3)))
    (l3 : K.lookup f3 = some ⟨oc3, od3, .func (PySem.W.fnOf "fault" "fault" (defArgs s_fault) (defBody s_fault) (defScope s_fault) .none kV3 dc3 pm3 an3 cd3 ct3), sl3⟩)
    (c3 : PySem.W.codeIn K cd3 "fault" = true)
    (k3 : PySem.W.keepIn K (.ref f3) = true)
    (a4 : PySem.W.nsIn K mainGlobals "looked" = some (some (.ref f4)))
    (l4 : K.lookup f4 = some ⟨oc4, od4, .func (PySem.W.fnOf "looked" "looked" (defArgs s_looked) (defBody s_looked) (defScope s_looked) .none kV4 dc4 pm4 an4 cd4 ct4), sl4⟩)
    (c4 : PySem.W.codeIn K cd4 "looked" = true)
    (k4 : PySem.W.keepIn K (.ref f4) = true)
    (a5 : PySem.W.nsIn K mainGlobals "_set_fault" = some (some (.ref f5)))
    (l5 : K.lookup f5 = some ⟨oc5, od5, .func (PySem.W.fnOf "_set_fault" "_set_fault" (defArgs s_set_fault) (defBody s_set_fault) (defScope s_set_fault) .none kV5 dc5 pm5 an5 cd5 ct5), sl5⟩)
    (c5 : PySem.W.codeIn K cd5 "_set_fault" = true)
    (k5 : PySem.W.keepIn K (.ref f5) = true)
    (a6 : PySem.W.nsIn K mainGlobals "barred" = some (some (.ref f6)))
    (l6 : K.lookup f6 = some ⟨oc6, od6, .func (PySem.W.fnOf "barred" "barred" (defArgs s_barred) (defBody s_barred) (defScope s_barred) .none kV6 dc6 pm6 an6 cd6 ct6), sl6⟩)
    (c6 : PySem.W.codeIn K cd6 "barred" = true)
    (k6 : PySem.W.keepIn K (.ref f6) = true)
    (a7 : PySem.W.nsIn K mainGlobals "_law_wide" = some (some (.ref f7)))
    (l7 : K.lookup f7 = some ⟨oc7, od7, .func (PySem.W.fnOf "_law_wide" "_law_wide" (defArgs s_law_wide) (defBody s_law_wide) (defScope s_law_wide) .none kV7 dc7 pm7 an7 cd7 ct7), sl7⟩)
    (c7 : PySem.W.codeIn K cd7 "_law_wide" = true)
    (k7 : PySem.W.keepIn K (.ref f7) = true)
    (a8 : PySem.W.nsIn K mainGlobals "_law_take" = some (some (.ref f8)))
    (l8 : K.lookup f8 = some ⟨oc8, od8, .func (PySem.W.fnOf "_law_take" "_law_take" (defArgs s_law_take) (defBody s_law_take) (defScope s_law_take) .none kV8 dc8 pm8 an8 cd8 ct8), sl8⟩)
    (c8 : PySem.W.codeIn K cd8 "_law_take" = true)
    (k8 : PySem.W.keepIn K (.ref f8) = true)
    (a9 : PySem.W.nsIn K mainGlobals "_law_set" = some (some (.ref f9)))
    (l9 : K.lookup f9 = some ⟨oc9, od9, .func (PySem.W.fnOf "_law_set" "_law_set" (defArgs s_law_set) (defBody s_law_set) (defScope s_law_set) .none kV9 dc9 pm9 an9 cd9 ct9), sl9⟩)
    (c9 : PySem.W.codeIn K cd9 "_law_set" = true)
    (k9 : PySem.W.keepIn K (.ref f9) = true)
    (a10 : PySem.W.nsIn K mainGlobals "_law_many_seats" = some (some (.ref f10)))
    (l10 : K.lookup f10 = some ⟨oc10, od10, .func (PySem.W.fnOf "_law_many_seats" "_law_many_seats" (defArgs s_law_many_seats) (defBody s_law_many_seats) (defScope s_law_many_seats) .none kV10 dc10 pm10 an10 cd10 ct10), sl10⟩)
    (c10 : PySem.W.codeIn K cd10 "_law_many_seats" = true)
    (k10 : PySem.W.keepIn K (.ref f10) = true)
    (a11 : PySem.W.nsIn K mainGlobals "_law_family" = some (some (.ref f11)))
    (l11 : K.lookup f11 = some ⟨oc11, od11, .func (PySem.W.fnOf "_law_family" "_law_family" (defArgs s_law_family) (defBody s_law_family) (defScope s_law_family) .none kV11 dc11 pm11 an11 cd11 ct11), sl11⟩)
    (c11 : PySem.W.codeIn K cd11 "_law_family" = true)
    (k11 : PySem.W.keepIn K (.ref f11) = true)
    (a12 : PySem.W.nsIn K mainGlobals "_law_whole" = some (some (.ref f12)))
    (l12 : K.lookup f12 = some ⟨oc12, od12, .func (PySem.W.fnOf "_law_whole" "_law_whole" (defArgs s_law_whole) (defBody s_law_whole) (defScope s_law_whole) .none kV12 dc12 pm12 an12 cd12 ct12), sl12⟩)
    (c12 : PySem.W.codeIn K cd12 "_law_whole" = true)
    (k12 : PySem.W.keepIn K (.ref f12) = true)
    (a13 : PySem.W.nsIn K mainGlobals "_law_due" = some (some (.ref f13)))
    (l13 : K.lookup f13 = some ⟨oc13, od13, .func (PySem.W.fnOf "_law_due" "_law_due" (defArgs s_law_due) (defBody s_law_due) (defScope s_law_due) .none kV13 dc13 pm13 an13 cd13 ct13), sl13⟩)
    (c13 : PySem.W.codeIn K cd13 "_law_due" = true)
    (k13 : PySem.W.keepIn K (.ref f13) = true)
    (a14 : PySem.W.nsIn K mainGlobals "_law_right" = some (some (.ref f14)))
    (l14 : K.lookup f14 = some ⟨oc14, od14, .func (PySem.W.fnOf "_law_right" "_law_right" (defArgs s_law_right) (defBody s_law_right) (defScope s_law_right) .none kV14 dc14 pm14 an14 cd14 ct14), sl14⟩)
    (c14 : PySem.W.codeIn K cd14 "_law_right" = true)
    (k14 : PySem.W.keepIn K (.ref f14) = true)
    (a15 : PySem.W.nsIn K mainGlobals "law" = some (some (.ref f15)))
    (l15 : K.lookup f15 = some ⟨oc15, od15, .func (PySem.W.fnOf "law" "law" (defArgs s_law) (defBody s_law) (defScope s_law) .none kV15 dc15 pm15 an15 cd15 ct15), sl15⟩)
    (c15 : PySem.W.codeIn K cd15 "law" = true)
    (k15 : PySem.W.keepIn K (.ref f15) = true)
    (m1 : PySem.W.nsIn K mainGlobals "SEATS" = some (some (.int 60 t1)))
    (m2 : PySem.W.nsIn K mainGlobals "SETS" = some (some (.int 200 t2)))
    (b_len : PySem.W.nsIn K mainGlobals "len" = some none)
    (b_range : PySem.W.nsIn K mainGlobals "range" = some none)
    (b_sum : PySem.W.nsIn K mainGlobals "sum" = some none)
    (b_sorted : PySem.W.nsIn K mainGlobals "sorted" = some none)
    (b_set : PySem.W.nsIn K mainGlobals "set" = some none)
    (b_tuple : PySem.W.nsIn K mainGlobals "tuple" = some none)
    (b_list : PySem.W.nsIn K mainGlobals "list" = some none)
    (b_isinstance : PySem.W.nsIn K mainGlobals "isinstance" = some none)
    (b_int : PySem.W.nsIn K mainGlobals "int" = some none)
    (b_bool : PySem.W.nsIn K mainGlobals "bool" = some none)
    (b_min : PySem.W.nsIn K mainGlobals "min" = some none)
    (b_all : PySem.W.nsIn K mainGlobals "all" = some none)
    (b_enumerate : PySem.W.nsIn K mainGlobals "enumerate" = some none) :
    ∃ fd : FuncData, (∀ (s : Shared) (v : Value), BindsTo s fd ⟨[v], []⟩ [("script", v)]) ∧
      ∀ base : Heap, K.In base → base.Ns mainGlobals mg → FnG P w K mg base CX0 7 fa fd ["script"] (spLaw K) := by
  have F_is_below : Fn K mg "is_below" s_is_below := fn_top X G a1 l1 c1 k1
  have F_look_at_seat : Fn K mg "look_at_seat" s_look_at_seat := fn_top X G a2 l2 c2 k2
  have F_fault : Fn K mg "fault" s_fault := fn_top X G a3 l3 c3 k3
  have F_looked : Fn K mg "looked" s_looked := fn_top X G a4 l4 c4 k4
  have F_set_fault : Fn K mg "_set_fault" s_set_fault := fn_top X G a5 l5 c5 k5
  have F_barred : Fn K mg "barred" s_barred := fn_top X G a6 l6 c6 k6
  have F_law_wide : Fn K mg "_law_wide" s_law_wide := fn_top X G a7 l7 c7 k7
  have F_law_take : Fn K mg "_law_take" s_law_take := fn_top X G a8 l8 c8 k8
  have F_law_set : Fn K mg "_law_set" s_law_set := fn_top X G a9 l9 c9 k9
  have F_law_many_seats : Fn K mg "_law_many_seats" s_law_many_seats := fn_top X G a10 l10 c10 k10
  have F_law_family : Fn K mg "_law_family" s_law_family := fn_top X G a11 l11 c11 k11
  have F_law_whole : Fn K mg "_law_whole" s_law_whole := fn_top X G a12 l12 c12 k12
  have F_law_due : Fn K mg "_law_due" s_law_due := fn_top X G a13 l13 c13 k13
  have F_law_right : Fn K mg "_law_right" s_law_right := fn_top X G a14 l14 c14 k14
  have F_law : Fn K mg "law" s_law := fn_top X G a15 l15 c15 k15
  have B_len := PySem.W.mg_none_of X G b_len
  have B_range := PySem.W.mg_none_of X G b_range
  have B_sum := PySem.W.mg_none_of X G b_sum
  have B_sorted := PySem.W.mg_none_of X G b_sorted
  have B_set := PySem.W.mg_none_of X G b_set
  have B_tuple := PySem.W.mg_none_of X G b_tuple
  have B_list := PySem.W.mg_none_of X G b_list
  have B_isinstance := PySem.W.mg_none_of X G b_isinstance
  have B_int := PySem.W.mg_none_of X G b_int
  have B_bool := PySem.W.mg_none_of X G b_bool
  have B_min := PySem.W.mg_none_of X G b_min
  have B_all := PySem.W.mg_none_of X G b_all
  have B_enumerate := PySem.W.mg_none_of X G b_enumerate
  exact law_end F_law hfa (fun _ _ _ _ _ _ s v => .of_eq rfl) fun base _ _ => whole ⟨B_len, B_range, B_sum, B_sorted, B_set, B_tuple, B_list, B_isinstance, B_int, B_bool, B_min, B_all, B_enumerate⟩ ⟨⟨t1, PySem.W.mg_of X G m1⟩, ⟨t2, PySem.W.mg_of X G m2⟩⟩
    F_is_below F_look_at_seat F_fault F_looked F_set_fault F_barred F_law_wide F_law_take F_law_set F_law_many_seats F_law_family F_law_whole F_law_due F_law_right F_law
end G0
open PySem PySem.W PyProof.Rows in
set_option maxRecDepth 100000 in
set_option maxHeartbeats 0 in
set_option pp.maxSteps 20 in
theorem PySem.Challenge.cw_soleseat_k57_falls_bar_holds : PySem.Challenge.rw_soleseat_k57_falls_bar.Holds := by
  w_on; o_law; k_head; (case hw => w_witness2)
  k_fill
  refine G0.walk_ofG (l := PySem.Challenge.rw_soleseat_k57_falls_bar) (n := 63) (k := 7) (x := "script") (sp := G0.spLaw) rfl (by decide) rfl ⟨rfl, by decide, by decide⟩ (fun w h Y => PySem.W.kIn_of Y) ?F (fun K H a ns hl _ hS => ⟨a, ns, rfl, hS, hl, fun _ => rfl⟩)
  case F =>
    intro w mg fa h KX G hmg
    refine' G0.all_mk KX G hmg ?a1 ?l1 ?c1 ?k1 ?a2 ?l2 ?c2 ?k2 ?a3 ?l3 ?c3 ?k3 ?a4 ?l4 ?c4 ?k4 ?a5 ?l5 ?c5 ?k5 ?a6 ?l6 ?c6 ?k6 ?a7 ?l7 ?c7 ?k7 ?a8 ?l8 ?c8 ?k8 ?a9 ?l9 ?c9 ?k9 ?a10 ?l10 ?c10 ?k10 ?a11 ?l11 ?c11 ?k11 ?a12 ?l12 ?c12 ?k12 ?a13 ?l13 ?c13 ?k13 ?a14 ?l14 ?c14 ?k14 ?a15 ?l15 ?c15 ?k15 ?m1 ?m2 ?b_len ?b_range ?b_sum ?b_sorted ?b_set ?b_tuple ?b_list ?b_isinstance ?b_int ?b_bool ?b_min ?b_all ?b_enumerate
    (case a1 => k_is)
    (case l1 => k_is)
    (case c1 => k_is)
    (case k1 => k_is)
    (case a2 => k_is)
    (case l2 => k_is)
    (case c2 => k_is)
    (case k2 => k_is)
    (case a3 => k_is)
    (case l3 => k_is)
    (case c3 => k_is)
    (case k3 => k_is)
    (case a4 => k_is)
    (case l4 => k_is)
    (case c4 => k_is)
    (case k4 => k_is)
    (case a5 => k_is)
    (case l5 => k_is)
    (case c5 => k_is)
    (case k5 => k_is)
    (case a6 => k_is)
    (case l6 => k_is)
    (case c6 => k_is)
    (case k6 => k_is)
    (case a7 => k_is)
    (case l7 => k_is)
    (case c7 => k_is)
    (case k7 => k_is)
    (case a8 => k_is)
    (case l8 => k_is)
    (case c8 => k_is)
    (case k8 => k_is)
    (case a9 => k_is)
    (case l9 => k_is)
    (case c9 => k_is)
    (case k9 => k_is)
    (case a10 => k_is)
    (case l10 => k_is)
    (case c10 => k_is)
    (case k10 => k_is)
    (case a11 => k_is)
    (case l11 => k_is)
    (case c11 => k_is)
    (case k11 => k_is)
    (case a12 => k_is)
    (case l12 => k_is)
    (case c12 => k_is)
    (case k12 => k_is)
    (case a13 => k_is)
    (case l13 => k_is)
    (case c13 => k_is)
    (case k13 => k_is)
    (case a14 => k_is)
    (case l14 => k_is)
    (case c14 => k_is)
    (case k14 => k_is)
    (case a15 => k_is)
    (case l15 => k_is)
    (case c15 => k_is)
    (case k15 => k_is)
    (case m1 => k_is)
    (case m2 => k_is)
    (case b_len => k_is)
    (case b_range => k_is)
    (case b_sum => k_is)
    (case b_sorted => k_is)
    (case b_set => k_is)
    (case b_tuple => k_is)
    (case b_list => k_is)
    (case b_isinstance => k_is)
    (case b_int => k_is)
    (case b_bool => k_is)
    (case b_min => k_is)
    (case b_all => k_is)
    (case b_enumerate => k_is)
#print axioms PySem.Challenge.cw_soleseat_k57_falls_bar_holds
namespace G0

end G0
