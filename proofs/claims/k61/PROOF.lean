import PyProof.Rows.All
import Wide.All
import OpenK.AllK
import Wide.FinOn
import HandS.ForMost
import HandS.Wide
import HandS.Conv
import HandS.TupAny
import HandS.Deep
import HandS.Steps
import HandS.NoneIn
import HandS.IsInst
import HandS.More
import HandS.Defaults
import HandS.TupSets
import HandS.EndBits
import HandS.Deep
import PySem.Challenge.RW_soleseat_k61_votes_asked_for
set_option Elab.async false
set_option maxRecDepth 100000
set_option maxHeartbeats 1000000
set_option linter.all false
/-! Calls where nothing is under repr around: the layer's defs, with one premise more (no guard around). -/
namespace G0
open PySem PySem.Spec PyProof.Rows L2
structure FnG (P : Program) (w : World) (K : PySem.W.Frag) (mg : Str → Option Value) (base : Heap) (CX : CXT)
    (k : Nat) (f : Addr) (fd : FuncData) (ps : List Str) (sp : Sp) : Prop where
  args : ∀ zs G R W, sp zs G R W → zs.length = ps.length
  runs : ∀ (B : Around) (around : List Env) (t : Shared) (G : Hp) (given : Args) (bound : List Value) (zs : List V) (R : VK) (W : XK),
    B.guards = some [] → Room k B → Env0 P w K mg base B around t G →
    BindsTo t fd given (ps.zip bound) → Vals zs bound → sp zs G R W →
    codeAny (model P w) B (.call (.ref f) given) (CR CX around P w G t R W) t
theorem FnG.of {P : Program} {w : World} {K : PySem.W.Frag} {mg : Str → Option Value} {base : Heap} {CX : CXT}
    {k : Nat} {f : Addr} {fd : FuncData} {ps : List Str} {sp : Sp} (F : FnOk P w K mg base CX k f fd ps sp) :
    FnG P w K mg base CX k f fd ps sp :=
  ⟨F.len, fun B around t G given bound zs R W _ hr => F.run B around t G given bound zs R W hr⟩
theorem FnG.mono {P : Program} {w : World} {K : PySem.W.Frag} {mg : Str → Option Value} {base : Heap} {CX : CXT}
    {j k : Nat} {f : Addr} {fd : FuncData} {ps : List Str} {sp : Sp} (F : FnG P w K mg base CX j f fd ps sp) (h : j ≤ k) :
    FnG P w K mg base CX k f fd ps sp :=
  ⟨F.args, fun B around t G given bound zs R W hg hr => F.runs B around t G given bound zs R W hg (hr.mono h)⟩
section
variable {X : Cx} {CX : CXT} {k : Nat} {f : Addr} {fd : FuncData} {ps : List Str} {sp : Sp}
  {dvs : List V} {ds : List Value} {E : XK} {x : Str} {p pos : Pos} {e : Expr} {es : List Expr} {t : TA}
theorem goes {pins : List (Addr × Obj)} {σ : L2.St} {H : Hp} {s : Shared} {Q : VK} {us : List Value} {vs : List V}
    (F : FnG X.prog X.w X.K X.mg X.base CX k f fd ps sp) (free : X.A.guards = some []) (hr : Room k X.A)
    (hb : Binds X.K fd ps ds) (hd : Vals dvs ds) (hx : Passes CX X E)
    (I : Inv X pins σ H s) (r : Vals vs us) (h : sp (vs ++ dvs) H Q E) :
    wpAny (model X.prog X.w) X.A (call (.ref f) us) (EP X pins σ Q) X.xe s := by
  have both : Vals (vs ++ dvs) (us ++ ds) := r.append hd
  have many : (us ++ ds).length = ps.length := both.length.symm.trans (F.args _ _ _ _ h)
  have it := F.runs X.A X.stack s H ⟨us, []⟩ (us ++ ds) (vs ++ dvs) Q E free hr I.env0 (hb s us I.kIn many) both h
  refine wpAny_call (codeAny_mono it fun out s' told => ?_)
  match out, told with
  | .error e, told => exact hx pins σ H s e s' I told
  | .ok (.ret u), told => exact I.after told
  | .ok .next, told => exact told.elim
  | .ok .brk, told => exact told.elim
  | .ok .cont, told => exact told.elim
theorem pe_callG (F : FnG X.prog X.w X.K X.mg X.base CX k f fd ps sp) (free : X.A.guards = some []) (hr : Room k X.A)
    (hg : Gl X x) (hm : X.mg x = some (.ref f)) (hk : PySem.W.keepIn X.K (.ref f) = true)
    (hb : Binds X.K fd ps ds) (hd : Vals dvs ds) (hx : Passes CX X E) (ha : PA X (e :: es) t)
    (n1 : (x == ("__debug__" : Str)) = false := by decide)
    (n2 : starEach (e :: es) X.env = (false, eval e X.env) :: starEach es X.env := by rfl)
    (n3 : (backTo pos (starEach es X.env)).any (·.1) = false := by rfl) :
    PE X (.Call (.Name x p) (e :: es) [] pos) (tCall sp dvs E t) :=
  ⟨fun pins s σ H Q I h => wpAny_Call_Name_kw (ld_glob I hg hm
    (PySem.W.callWith_K (h₀ := X.base) I.ok.mod.kin hk
      (thn (ha.run pos pins s σ H _ I h) fun us s1 ⟨vs, H1, I1, r, q⟩ =>
        ⟨I1.kIn, goes F free hr hb hd hx I1 r q⟩) n2 n3) n1)⟩
end
/-- a def's body, where nothing is under repr -/
theorem fnG_of {CX : CXT} {P : Program} {w : World} {K : PySem.W.Frag} {mg : Str → Option Value} {base : Heap} {k : Nat}
    {f : Addr} {name qual : Str} {params : Arguments} {body : List Stmt} {scope : Scope} {dV kV doc pm cdv ct oc : Value}
    {an od : Option Addr} {osl : Array (Option Value)} {N ps : List Str} {sp : Sp}
    (lk : K.lookup f = some ⟨oc, od, .func (PySem.W.fnOf name qual params body scope dV kV doc pm an cdv ct), osl⟩)
    (coded : PySem.W.codeIn K cdv qual = true) (S : FnScope N ps scope)
    (len : ∀ zs G R W, sp zs G R W → zs.length = ps.length)
    (inner : ∀ (B : Around) (around : List Env) (t : Shared) (G : Hp) (zs : List V) (R : VK) (W : XK), B.guards = some [] →
      Room k (B.deeper (envOfC qual scope t.heap.objs.size f cdv)) → sp zs G R W →
      ∃ tb, PSs (cxOf CX P w K mg base N qual scope f cdv B around t G W) body tb ∧
        tb { nx := fun _ G' => R .non G', rt := R } (start N zs) G) :
    FnG P w K mg base CX (k + 1) f (PySem.W.fnOf name qual params body scope dV kV doc pm an cdv ct) ps sp := by
  refine ⟨len, fun B around t G given bound zs R W free room e0 bd rel asked => ?_⟩
  have many := len _ _ _ _ asked
  have KX : K.In t.heap := e0.mod.kin.keeps fun b o z => (e0.bs b o z).1
  have lim : t.heap.NoLimit := e0.mod.nolimit.keeps fun b o z => (e0.bs b o z).1
  have kinds : ∀ y ∈ ps.zip bound, scope.names.lookup y.1 = some .local ∨
      (scope.names.lookup y.1 = some .cell ∧ ((cellsFrom (t.heap.objs.size + 1) scope.names []).lookup y.1).isSome = true) := by
    intro y hy
    cases S.par y.1 (List.of_mem_zip hy).1 with
    | inl q => exact .inl q
    | inr q => exact .inr ⟨q, PySem.W.cellsFrom_some _ _ _ (.inl q)⟩
  refine codeAny_call_function room.depth (KX _ _ lk) rfl S.co S.gen rfl (PySem.W.codeRec_of KX coded) (bd _ _ _ _ ?_)
  refine wpAny_newFunctionEnv_cells S.kind kinds fun env same t1 made => ?_
  subst same
  refine ⟨lim.keeps made.toInCall.keep, codeAny_func ?_⟩
  obtain ⟨tb, derived, holds⟩ := inner B around t G zs R W free (room.deeper _) asked
  have J : Inv (cxOf CX P w K mg base N qual scope f cdv B around t G W) [] (start N zs) G t1 :=
    inv_start S room.hd e0 many rel made
  refine wpAny_mono (derived.run [] t1 (start N zs) G _ J holds) (fun fl t' told => ?_) fun e t' told => told
  match fl, told with
  | .ret u, ⟨v, σ', G', J', rv, q⟩ => exact ⟨v, G', J'.os, J'.bare, J'.base, J'.hok, rv, q⟩
  | .next, ⟨σ', G', J', q⟩ => exact ⟨V.non, G', J'.os, J'.bare, J'.base, J'.hok, (rfl : Value.none = Value.none), q⟩
  | .brk, ⟨_, _, _, q⟩ => exact q.elim
  | .cont, ⟨_, _, _, q⟩ => exact q.elim
theorem okG {P : Program} {w : World} {K : PySem.W.Frag} {mg : Str → Option Value} {base : Heap} {x qual : Str} {st : Stmt}
    {f : Addr} {fd : FuncData} {N ps : List Str} {k : Nat} {sp : Sp} (F : Fun K x qual st f fd) (S : FnScope N ps (defScope st))
    (len : ∀ zs G R W, sp zs G R W → zs.length = ps.length)
    (inner : ∀ (cdv : Value) (B : Around) (around : List Env) (t : Shared) (G : Hp) (zs : List V) (R : VK) (W : XK), B.guards = some [] →
      Room k (B.deeper (envOfC qual (defScope st) t.heap.objs.size f cdv)) → sp zs G R W →
      ∃ tb, PSs (cxOf CX0 P w K mg base N qual (defScope st) f cdv B around t G W).nox (defBody st) tb ∧
        tb { nx := fun _ G' => R .non G', rt := R } (start N zs) G) :
    FnG P w K mg base CX0 (k + 1) f fd ps sp := by
  obtain ⟨oc, od, kV, doc, pm, an, cdv, ct, osl, rfl, lk, coded⟩ := F.ex
  refine fnG_of lk coded S len fun B around t G zs R W free room asked => ?_
  obtain ⟨tb, derived, holds⟩ := inner cdv B around t G zs R W free room asked
  exact ⟨tb, derived.nox, holds⟩
/-- the law's own call -/
theorem law_callG {P : Program} {w : World} {K : PySem.W.Frag} {mg mb : Str → Option Value} {CX : CXT} {k : Nat} {fa a : Addr}
    {fd : FuncData} {x : Str} {sp : Sp} {s₁ : Shared} {vs : List Value} {ns : List Int}
    (KX : K.In s₁.heap) (gl : s₁.heap.Ns mainGlobals mg) (bl : s₁.heap.Ns builtinsNs mb)
    (boot : ∀ x : Str, x ≠ "__name__" → mb x = bootBuiltins x) (lim : s₁.heap.NoLimit) (nogens : s₁.gens = #[])
    (at_ : s₁.heap.get? a = some { cls := .type "list", data := .seq vs.toArray }) (nums : IntsAre vs ns) (short : ns.length ≤ sizeLine)
    (room : Room k callerA)
    (F : ∀ base : Heap, K.In base → base.Ns mainGlobals mg → FnG P w K mg base CX k fa fd [x] sp)
    (bound : ∀ (s : Shared) (u : Value), BindsTo s fd ⟨[u], []⟩ [(x, u)])
    (asked : ∀ H : Hp, Only H → SqL K H a (ns.map V.int) → sp [.ref a] H (fun v _ => v = .bl true) fun _ _ _ => False)
    (never : ∀ H e s', CX [] H s₁ (fun _ _ _ => False) e s' → False) :
    codeAny (model P w) callerA (.call (.ref fa) ⟨[.ref a], []⟩)
      (fun r s' => r = .ok (.ret (.bool true)) ∧ OldK s₁.heap s'.heap ∧ s'.os = s₁.os ∧ AllBare s'.gens) s₁ := by
  have rel := vals_ints nums
  have many := nums.length
  have from_ : ∀ H : Hp, Only H → SqL K H a (ns.map V.int) → HOk P w H s₁.heap → (∀ b, H b ≠ none → b = a) →
      (H a ≠ none → K.lookup a = none) → codeAny (model P w) callerA (.call (.ref fa) ⟨[.ref a], []⟩)
        (fun r s' => r = .ok (.ret (.bool true)) ∧ OldK s₁.heap s'.heap ∧ s'.os = s₁.os ∧ AllBare s'.gens) s₁ := by
    intro H only seq fine one away
    have down : ∀ {b : Addr} {o : Obj}, s₁.heap.get? b = some o → H b = none →
      (hidT s₁.heap H).get? b = some o := fun e n => hidT_get e n
    have untracked : ∀ {b : Addr} {o : Obj}, s₁.heap.get? b = some o → (b = a → False) → H b = none := by
      intro b o _ n
      by_cases q : H b = none
      · exact q
      · exact (n (one b q)).elim
    have nodict : ∀ {b : Addr} {o : Obj} {es : Array DictEntry} {ep : Nat},
        s₁.heap.get? b = some o → o.data = .dict es ep → H b = none := by
      intro b o es ep e d
      refine untracked e fun q => ?_
      rw [q, at_] at e
      have e' := Option.some.inj e
      rw [← e'] at d
      have d' : Data.seq vs.toArray _ = Data.dict es ep := d
      exact absurd d' (fun h => by cases h)
    have spaces : ∀ {b : Addr} {m : Str → Option Value}, s₁.heap.Ns b m → (hidT s₁.heap H).Ns b m := by
      intro b m ns
      obtain ⟨o, es, ep, e, d, r⟩ := ns
      exact ⟨o, es, ep, down e (nodict e d), d, r⟩
    have written : K.In (hidT s₁.heap H) := by
      intro b o e
      refine down (KX b o e) ?_
      by_cases q : H b = none
      · exact q
      · have same := one b q
        rw [same] at q e
        rw [away q] at e
        cases e
    have md : Mod K mg (hidT s₁.heap H) := by
      obtain ⟨mc, h1, h2⟩ := lim
      exact ⟨written, spaces gl, ⟨mb, spaces bl, boot⟩, ⟨mc, spaces h1, h2⟩⟩
    have e0 : Env0 P w K mg (hidT s₁.heap H) callerA [] s₁ H :=
      ⟨rfl, md, fun b o e => of_hidT e, Nat.le_of_eq (hidT_size _ _), trivial,
        fun b hb => (List.not_mem_nil (show b ∈ ([] : List Addr) from hb)).elim, fine, .of_eq nogens⟩
    have it := (F _ written (spaces gl)).runs callerA [] s₁ H ⟨[.ref a], []⟩ [.ref a] [.ref a] _ _ rfl room e0
      (bound s₁ (.ref a)) (.cons rfl .nil) (asked H only seq)
    refine codeAny_mono it fun out s' told => ?_
    match out, told with
    | .error e, told => exact (never H e s' told).elim
    | .ok .next, told => exact told.elim
    | .ok .brk, told => exact told.elim
    | .ok .cont, told => exact told.elim
    | .ok (.ret u), ⟨v, H', os, bare, un, fine', r', q⟩ =>
      have q' : v = .bl true := q
      subst q'
      have u' : u = Value.bool true := r'
      subst u'
      refine ⟨rfl, OldK.of_keep fun b o e => ?_, os, bare⟩
      cases q : H b with
      | none => exact un.keep b o e q (fun z => (List.not_mem_nil (show b ∈ ([] : List Addr) from z)).elim) (List.not_mem_nil)
      | some u =>
        rcases only b with z | ⟨ob, xs, z⟩
        · have z1 := q.symm.trans z
          cases z1
        · have z' := un.frzs b ob _ z
          have e1 := (fine b _ z).1
          have e2 := (fine' b _ z').1
          exact e2.trans (e1.symm.trans e)
  cases known : K.lookup a with
  | some o =>
    have e := (KX a o known).symm.trans at_
    have e' := Option.some.inj e
    subst e'
    refine from_ (fun _ => none) (fun _ => .inl rfl) (.inr ⟨_, vs.toArray, _, known, rfl, rfl, rfl, ?_, ?_⟩)
      (fun b u z => by have z1 : (none : Option HO) = some u := z; cases z1) (fun b z => (z rfl).elim) fun z => (z rfl).elim
    · rw [List.size_toArray, many]; exact short
    · simpa using rel
  | none =>
    have self : (fun b => if b = a then some (HO.frz { cls := .type "list", data := .seq vs.toArray } (.lst (ns.map V.int))) else none) a
        = some (HO.frz { cls := .type "list", data := .seq vs.toArray } (.lst (ns.map V.int))) := if_pos rfl
    refine from_ (fun b => if b = a then some (HO.frz { cls := .type "list", data := .seq vs.toArray } (.lst (ns.map V.int))) else none)
      (fun b => ?_) (.inl (.inr ⟨_, self⟩)) (fun b u z => ?_) (fun b z => ?_) fun _ => known
    · by_cases same : b = a
      · exact .inr ⟨_, _, if_pos same⟩
      · exact .inl (if_neg same)
    · by_cases same : b = a
      · subst same
        have z' := Option.some.inj ((if_pos rfl).symm.trans z)
        subst z'
        exact ⟨at_, by rw [List.length_map]; exact short, vs, _, rel, at_⟩
      · have z1 := (if_neg same).symm.trans z
        cases z1
    · by_cases same : b = a
      · exact same
      · exact (z (if_neg same)).elim
theorem walk_ofG {l : PySem.W.OpenLaw} {n k : Nat} {q : Program} {loose : List Str} {XP : (Str → Option Value) → Heap → Prop}
    {YP : World → Heap → Prop} {d : DefRec} {K : Params → PySem.W.Frag} {sp : PySem.W.Frag → Sp} {x : Str}
    (hn : l.most = some n) (hn2 : n ≤ sizeLine) (hdf : d.params.defaults = []) (room : Room k callerA)
    (hY : ∀ (w : World) (h : Heap), YP w h → (K w.params).In h)
    (F : ∀ (w : World) (mg : Str → Option Value) (fa : Addr) (h : Heap), (K w.params).In h → h.Ns mainGlobals mg →
      mg d.name = some (.ref fa) → ∃ fd : FuncData, (∀ (s : Shared) (u : Value), BindsTo s fd ⟨[u], []⟩ [(x, u)]) ∧
        ∀ base : Heap, (K w.params).In base → base.Ns mainGlobals mg →
          FnG l.prog w (K w.params) mg base CX0 k fa fd [x] (sp (K w.params)))
    (asked : ∀ (K : PySem.W.Frag) (H : Hp) (a : Addr) (ns : List Int), ns.length ≤ n → Only H → SqL K H a (ns.map V.int) →
      sp K [.ref a] H (fun v _ => v = .bl true) fun _ _ _ => False) :
    PySem.W.WalkO q loose XP YP l.row.toRowW d [] (fun f vs => PySem.call f vs) := by
  refine Att.attach_call hn hdf fun w s₀ s₁ mg mb fa o pm cd doc a vs ns G Y ho hd hcd named obj nums few nogens => ?_
  have KX := hY w _ Y
  obtain ⟨fd, bound, all⟩ := F w mg fa _ KX G.T.g named
  exact law_callG KX G.T.g G.T.b G.T.builtins G.T.nolimit nogens obj nums (Nat.le_trans few hn2) room all bound
    (fun H only seq => asked _ H a ns few only seq) fun H e s' z => z
end G0
namespace G0
open PySem PySem.Spec PyProof.Rows L2
/-! ### a def of the module's top, by its name -/
def Fn (K : PySem.W.Frag) (mg : Str → Option Value) (x : Str) (st : Stmt) : Prop :=
  ∃ f fd, Fun K x x st f fd ∧ mg x = some (.ref f)
def Cal (P : Program) (w : World) (K : PySem.W.Frag) (mg : Str → Option Value) (base : Heap) (x : Str) (k : Nat) (ps : List Str) (sp : Sp) : Prop :=
  ∃ f fd, FnG P w K mg base CX0 k f fd ps sp ∧ Binds K fd ps [] ∧ mg x = some (.ref f) ∧ PySem.W.keepIn K (.ref f) = true ∧
    ∃ oc od osl, K.lookup f = some ⟨oc, od, .func fd, osl⟩
theorem fn_top {K : PySem.W.Frag} {h : Heap} {mg : Str → Option Value} {x : Str} {st : Stmt} {f : Addr} {oc : Value} {od an : Option Addr}
    {osl : Array (Option Value)} {kV doc pm cdv ct : Value} (X : K.In h) (G : h.Ns mainGlobals mg)
    (a : PySem.W.nsIn K mainGlobals x = some (some (.ref f)))
    (l : K.lookup f = some ⟨oc, od, .func (PySem.W.fnOf x x (defArgs st) (defBody st) (defScope st) .none kV doc pm an cdv ct), osl⟩)
    (c : PySem.W.codeIn K cdv x = true) (k : PySem.W.keepIn K (.ref f) = true) : Fn K mg x st :=
  ⟨f, _, fun_mk l c k, PySem.W.mg_of X G a⟩
/-- a method of the class at C -/
def Fm (K : PySem.W.Frag) (C : Addr) (x qual : Str) (st : Stmt) : Prop := ∃ f fd, Fun K x qual st f fd ∧ Meth K C x f
theorem fm_top {K : PySem.W.Frag} {C : Addr} {x qual : Str} {st : Stmt} {f : Addr} {oc : Value} {od an : Option Addr}
    {osl : Array (Option Value)} {kV doc pm cdv ct : Value}
    (a : PySem.W.findIn K (.ref C) x = some (some (.ref f))) (i : PySem.W.isFn K (.ref f) = true)
    (l : K.lookup f = some ⟨oc, od, .func (PySem.W.fnOf x qual (defArgs st) (defBody st) (defScope st) .none kV doc pm an cdv ct), osl⟩)
    (c : PySem.W.codeIn K cdv qual = true) (k : PySem.W.keepIn K (.ref f) = true) : Fm K C x qual st :=
  ⟨f, _, fun_mk l c k, ⟨a, i, k⟩⟩
section
variable {P : Program} {w : World} {K : PySem.W.Frag} {mg : Str → Option Value} {base : Heap}
theorem cal_of {x : Str} {st : Stmt} {N ps : List Str} {k : Nat} {sp : Sp} (F : Fn K mg x st) (S : FnScope N ps (defScope st))
    (bd : ∀ (kV doc pm : Value) (an : Option Addr) (cdv ct : Value) (us : List Value), us.length = ps.length →
      bindArgs (PySem.W.fnOf x x (defArgs st) (defBody st) (defScope st) .none kV doc pm an cdv ct) ⟨us, []⟩ = pure (ps.zip us))
    (len : ∀ zs G R W, sp zs G R W → zs.length = ps.length)
    (inner : ∀ (f : Addr) (cdv : Value) (B : Around) (around : List Env) (t : Shared) (G : Hp) (zs : List V) (R : VK) (W : XK), B.guards = some [] →
      Room k (B.deeper (envOfC x (defScope st) t.heap.objs.size f cdv)) → sp zs G R W →
      ∃ tb, PSs (cxOf CX0 P w K mg base N x (defScope st) f cdv B around t G W).nox (defBody st) tb ∧
        tb { nx := fun _ G' => R .non G', rt := R } (start N zs) G) :
    Cal P w K mg base x (k + 1) ps sp := by
  obtain ⟨f, fd, F, m⟩ := F
  obtain ⟨oc, od, kV, doc, pm, an, cdv, ct, osl, e, lk, c⟩ := id F.ex
  exact ⟨f, fd, okG F S len (inner f), F.binds bd, m, F.kp, oc, od, osl, lk⟩
theorem Cal.mono {x : Str} {j k : Nat} {ps : List Str} {sp : Sp} (C : Cal P w K mg base x j ps sp) (h : j ≤ k) : Cal P w K mg base x k ps sp := by
  obtain ⟨f, fd, F, r⟩ := C
  exact ⟨f, fd, F.mono h, r⟩
/-- the law itself, at the end -/
theorem law_end {st : Stmt} {k : Nat} {sp : Sp} {fa : Addr} (F : Fn K mg "law" st) (hm : mg "law" = some (.ref fa))
    (bt : ∀ (kV doc pm : Value) (an : Option Addr) (cdv ct : Value) (s : Shared) (v : Value),
      BindsTo s (PySem.W.fnOf "law" "law" (defArgs st) (defBody st) (defScope st) .none kV doc pm an cdv ct) ⟨[v], []⟩ [("script", v)])
    (C : ∀ base : Heap, K.In base → base.Ns mainGlobals mg → Cal P w K mg base "law" k ["script"] sp) :
    ∃ fd : FuncData, (∀ (s : Shared) (v : Value), BindsTo s fd ⟨[v], []⟩ [("script", v)]) ∧
      ∀ base : Heap, K.In base → base.Ns mainGlobals mg → FnG P w K mg base CX0 k fa fd ["script"] sp := by
  obtain ⟨f, fd, F, m⟩ := F
  obtain ⟨oc, od, kV, doc, pm, an, cdv, ct, osl, e, lk, c⟩ := id F.ex
  have ef := m.symm.trans hm
  cases ef
  refine ⟨fd, fun s v => by rw [e]; exact bt _ _ _ _ _ _ s v, fun base kin ns => ?_⟩
  obtain ⟨f', fd', G, _, m', _, oc', od', osl', lk'⟩ := C base kin ns
  have ef := m.symm.trans m'
  cases ef
  have ed := lk.symm.trans lk'
  cases ed
  exact G
end
section
variable {X : Cx} {k : Nat} {ps : List Str} {sp : Sp} {x : Str} {p pos : Pos} {e : Expr} {es : List Expr} {t : TA}
theorem pe_cal (C : Cal X.prog X.w X.K X.mg X.base x k ps sp) (free : X.A.guards = some []) (hr : Room k X.A)
    (ha : PA X (e :: es) t) (hg : Gl X x := by rfl) (n1 : (x == ("__debug__" : Str)) = false := by decide)
    (n2 : starEach (e :: es) X.env = (false, eval e X.env) :: starEach es X.env := by rfl)
    (n3 : (backTo pos (starEach es X.env)).any (·.1) = false := by rfl) (hx : Passes CX0 X E0 := by exact pass0) :
    PE X (.Call (.Name x p) (e :: es) [] pos) (tCall sp [] E0 t) := by
  obtain ⟨f, fd, F, b, m, kp, _⟩ := C
  exact pe_callG F free hr hg m kp b .nil hx ha n1 n2 n3
/-! ### repr of data -/
def rRep (K : PySem.W.Frag) : List V → Hp → VK → Prop := fun xs H Q => ∃ (x : V) (d : PyData), xs = [x] ∧ Dp K H x d ∧
  d.showable = true ∧ d.hasDict = false ∧ d.depth ≤ 64 ∧ d.shown.length ≤ sizeLine ∧ Q (.str d.shown) H
theorem call_rep (free : X.A.guards = some []) (hu : X.A.units + 66 < cLine) : CallR X (.builtin "repr") (rRep X.K) := by
  intro pins s σ H xs us Q I r h
  obtain ⟨x, d, rfl, hd, hs, hn, h64, hz, q⟩ := h
  obtain ⟨u, rfl, rx⟩ := vals1 r
  have viaRef : ∀ (a : Addr), x = .ref a → wpAny (model X.prog X.w) X.A (call (.builtin "repr") [u]) (EP X pins σ Q) X.xe s := by
    intro a e
    subst e
    obtain rfl : u = Value.ref a := rx
    obtain ⟨as, rd⟩ := Dp.reads I d _ _ hd (rfl : RelV (.ref a) (.ref a))
    exact repr_of_reads' rd hs (PyData.noDict_hsm hn) free (by omega) (fun _ _ e => e)
      (fun h' w t kp => ⟨.str d.shown, H, I.kept (t' := t) kp, ⟨_, rfl⟩, q⟩) hz
  cases hd with
  | non =>
    obtain rfl : u = Value.none := rx
    exact PySem.P.repr_of_none ⟨.str _, H, I.tok _, ⟨_, rfl⟩, by simpa only [PyData.shown] using q⟩
  | bl b =>
    obtain rfl : u = Value.bool b := rx
    exact PySem.P.repr_of_bool ⟨.str _, H, I.tok _, ⟨_, rfl⟩, by simpa only [PyData.shown] using q⟩
  | int i =>
    obtain ⟨t, rfl⟩ := rx
    exact PySem.P.repr_of_int (by simpa [PyData.showable] using hs) ⟨.str _, H, I.tok _, ⟨_, rfl⟩, by simpa only [PyData.shown] using q⟩
  | str z =>
    obtain ⟨t, rfl⟩ := rx
    exact PySem.P.repr_of_str ⟨.str _, H, I.tok _, ⟨_, rfl⟩, by simpa only [PyData.shown] using q⟩ (by simpa only [PyData.shown] using hz)
  | lst _ _ => exact viaRef _ rfl
  | tup _ _ => exact viaRef _ rfl
/-! ### operators of several kinds in one -/
theorem u_eq (hu : X.A.units + 64 < cLine) : OpR X (compareOp .Eq) (fun x y H Q => rEq x y H Q ∨ rEqD X.K x y H Q) := op_eq.or (op_eqD hu)
theorem u_ne (hu : X.A.units + 64 < cLine) : OpR X (compareOp .NotEq) (fun x y H Q => rNe x y H Q ∨ rNeD X.K x y H Q) := op_ne.or (op_neD hu)
theorem u_in : OpR X (compareOp .In) (fun x y H Q => rIn X.K false x y H Q ∨ rInS x y H Q) := op_in_seq.or op_inS
theorem u_notin : OpR X (compareOp .NotIn) (fun x y H Q => rIn X.K true x y H Q ∨ rNotInS x y H Q) := op_notIn_seq.or op_notInS
end
theorem pe_fldK {X : Cx} {e : Expr} {f : Str} {pos : Pos} {ta : TE} (K : PySem.W.Frag) (ha : PE X e ta) (hK : X.K = K := by rfl)
    (hb : attributeBase e f X.env (eval e X.env) = eval e X.env := by rfl) : PE X (.Attribute e f pos) (tFld K ta f) := by
  subst hK
  exact pe_fld ha hb
/-! ### the written part named, for what stands within a comprehension -/
theorem op_K {X : Cx} {f : Value → Value → Sem Value} (r : PySem.W.Frag → R2) (K : PySem.W.Frag) (ho : OpR X f (r X.K)) (hK : X.K = K) : OpR X f (r K) := hK ▸ ho
theorem ix_K {X : Cx} (r : PySem.W.Frag → R2) (K : PySem.W.Frag) (ho : IxR X (r X.K)) (hK : X.K = K) : IxR X (r K) := hK ▸ ho
theorem call_K {X : Cx} {f : Value} (r : PySem.W.Frag → List V → Hp → VK → Prop) (K : PySem.W.Frag) (ho : CallR X f (r X.K)) (hK : X.K = K) : CallR X f (r K) := hK ▸ ho
section
variable {X : Cx} (K : PySem.W.Frag)
theorem u_inK (hK : X.K = K := by rfl) : OpR X (compareOp .In) (fun x y H Q => rIn K false x y H Q ∨ rInS x y H Q) := op_K (fun K x y H Q => rIn K false x y H Q ∨ rInS x y H Q) K u_in hK
theorem u_notinK (hK : X.K = K := by rfl) : OpR X (compareOp .NotIn) (fun x y H Q => rIn K true x y H Q ∨ rNotInS x y H Q) := op_K (fun K x y H Q => rIn K true x y H Q ∨ rNotInS x y H Q) K u_notin hK
theorem ix_listK (hK : X.K = K := by rfl) : IxR X (rIxL K) := ix_K rIxL K ix_list hK
theorem ix_tupK (hK : X.K = K := by rfl) : IxR X (rIxT K) := ix_K rIxT K ix_tup hK
theorem ix_seqK (hK : X.K = K := by rfl) : IxR X (rIx K) := ix_K rIx K ix_seq hK
theorem call_len_seqK (hK : X.K = K := by rfl) : CallR X (.builtin "len") (fun xs H Q => ∃ p ys, xs = [.ref p] ∧ (SqL K H p ys ∨ SqT K H p ys) ∧ Q (.int ys.length) H) :=
  call_K (fun K xs H Q => ∃ p ys, xs = [.ref p] ∧ (SqL K H p ys ∨ SqT K H p ys) ∧ Q (.int ys.length) H) K call_len_seq hK
end
/-! ### what changes: one list -/
/-- all that is tracked but p stays -/
def Chg (p : Addr) (H H' : Hp) : Prop := ∀ b o, b ≠ p → H b = some o → H' b = some o
theorem Chg.refl (p : Addr) (H : Hp) : Chg p H H := fun _ _ _ e => e
theorem Chg.trans {p : Addr} {H H1 H2 : Hp} (a : Chg p H H1) (b : Chg p H1 H2) : Chg p H H2 := fun c o n e => b c o n (a c o n e)
theorem Chg.self {p : Addr} {H : Hp} {o : HO} : Chg p H (upd H p o) := fun b u n e => by rw [upd_ne n]; exact e
theorem Chg.new {p q : Addr} {H H1 : Hp} {o : HO} (a : Chg p H H1) (n : H1 q = none) : Chg p H (upd H1 q o) := fun b u m e => by
  rw [upd_ne (ne_of_none (a b u m e) n)]; exact a b u m e
theorem Chg.same {p : Addr} {H H1 : Hp} (a : Same H H1) : Chg p H H1 := fun b o _ e => a b o e
theorem same_upd {H : Hp} {q : Addr} {o : HO} (n : H q = none) : Same H (upd H q o) := fun b u e => by
  rw [upd_ne (ne_of_none e n)]; exact e
/-! ### a law's draws: the pot -/
def PotL (n : Nat) (xs : List V) : Prop := ∃ a b c : Int, xs = [.int a, .int b, .int c] ∧ 0 ≤ a ∧ 0 ≤ b ∧ b < 2305843009213693951 ∧ 0 ≤ c ∧ c ≤ n
def PotAt (n : Nat) (H : Hp) (p : Addr) : Prop := ∃ xs, H p = some (.lst xs) ∧ PotL n xs
theorem PotL.mono {n m : Nat} {xs : List V} (h : PotL n xs) (le : n ≤ m) : PotL m xs := by
  obtain ⟨a, b, c, e, h1, h2, h3, h4, h5⟩ := h
  exact ⟨a, b, c, e, h1, h2, h3, h4, by omega⟩
theorem PotAt.mono {n m : Nat} {H : Hp} {p : Addr} (h : PotAt n H p) (le : n ≤ m) : PotAt m H p := by
  obtain ⟨xs, e, h⟩ := h
  exact ⟨xs, e, h.mono le⟩
theorem PotAt.keep {n : Nat} {H H' : Hp} {p : Addr} (h : PotAt n H p) (s : Same H H') : PotAt n H' p := by
  obtain ⟨xs, e, h⟩ := h
  exact ⟨xs, s _ _ e, h⟩
theorem PotAt.at {n : Nat} {H : Hp} {p : Addr} {xs : List V} (h : PotL n xs) : PotAt n (upd H p (.lst xs)) p := ⟨xs, upd_same, h⟩
end G0
/-! Wide powers, the law's own call with the script's bits told, len of an own object, sorted of a tuple of tuples of ints. -/
namespace G0
open PySem PySem.Spec PyProof.Rows L2
def CPowB (i j : Int) : Prop := 0 ≤ j ∧ (Builtin.Int.intBits i : Int) * j ≤ 2 ^ 27
theorem op_powB {X : Cx} : OpR X (binaryOp .Pow) (rI CPowB fun i j => .int (i ^ j.toNat)) := opI fun _ _ _ _ _ _ _ hc q => pow_int hc.1 hc.2 q
theorem walk_ofGB {l : PySem.W.OpenLaw} {n k : Nat} {q : Program} {loose : List Str} {XP : (Str → Option Value) → Heap → Prop}
    {YP : World → Heap → Prop} {d : DefRec} {K : Params → PySem.W.Frag} {sp : PySem.W.Frag → Sp} {x : Str}
    (hn : l.most = some n) (hn2 : n ≤ sizeLine) (hdf : d.params.defaults = []) (room : Room k callerA)
    (hY : ∀ (w : World) (h : Heap), YP w h → (K w.params).In h)
    (F : ∀ (w : World) (mg : Str → Option Value) (fa : Addr) (h : Heap), (K w.params).In h → h.Ns mainGlobals mg →
      mg d.name = some (.ref fa) → ∃ fd : FuncData, (∀ (s : Shared) (u : Value), BindsTo s fd ⟨[u], []⟩ [(x, u)]) ∧
        ∀ base : Heap, (K w.params).In base → base.Ns mainGlobals mg →
          FnG l.prog w (K w.params) mg base CX0 k fa fd [x] (sp (K w.params)))
    (asked : ∀ (K : PySem.W.Frag) (H : Hp) (a : Addr) (ns : List Int), ns.length ≤ n → (∀ z ∈ ns, Builtin.Int.intBits z ≤ 1048576) → Only H → SqL K H a (ns.map V.int) →
      sp K [.ref a] H (fun v _ => v = .bl true) fun _ _ _ => False) :
    PySem.W.WalkO q loose XP YP l.row.toRowW d [] (fun f vs => PySem.call f vs) := by
  refine Att.attach_callB hn hdf fun w s₀ s₁ mg mb fa o pm cd doc a vs ns G Y ho hd hcd named obj nums few bits nogens => ?_
  have KX := hY w _ Y
  obtain ⟨fd, bound, all⟩ := F w mg fa _ KX G.T.g named
  exact law_callG KX G.T.g G.T.b G.T.builtins G.T.nolimit nogens obj nums (Nat.le_trans few hn2) room all bound
    (fun H only seq => asked _ H a ns few bits only seq) fun H e s' z => z
/-! ### len of an own object -/
section
variable {X : Cx} {CX : CXT} {k : Nat} {f C : Addr} {fd : FuncData} {ps : List Str} {sp : Sp} {dvs : List V} {ds : List Value} {E : XK}
theorem run_fn1 {pins : List (Addr × Obj)} {σ : L2.St} {H : Hp} {s : Shared} {Q : VK} {us : List Value} {vs : List V}
    (F : FnOk X.prog X.w X.K X.mg X.base CX k f fd ps sp) (hr : Room (k + 1) X.A) (hb : Binds X.K fd ps ds) (hd : Vals dvs ds) (hx : Passes CX X E)
    (I : Inv X pins σ H s) (r : Vals vs us) (h : sp (vs ++ dvs) H Q E) : wpAny (model X.prog X.w) X.A.in1 (call (.ref f) us) (EP X pins σ Q) X.xe s := by
  have r2 : Vals (vs ++ dvs) (us ++ ds) := r.append hd
  have hl : (us ++ ds).length = ps.length := by rw [← r2.length]; exact F.len _ _ _ _ h
  refine wpAny_call (codeAny_mono (F.run X.A.in1 X.stack s H ⟨us, []⟩ (us ++ ds) (vs ++ dvs) Q E hr.in1 I.env0.in1 (hb s us I.kIn hl) r2 h) fun r s' hq => ?_)
  cases r with
  | error e => exact hx pins σ H s e s' I hq
  | ok fl =>
    cases fl with
    | ret u => exact I.after hq
    | next => exact False.elim hq
    | brk => exact False.elim hq
    | cont => exact False.elim hq
def rLenOwn (C : Addr) (sp : Sp) (E : XK) : List V → Hp → VK → Prop := fun xs H Q => ∃ (a dx : Addr) (fs : List (Str × V)), xs = [.ref a] ∧ H a = some (.ins C dx fs) ∧
  sp [.ref a] H (fun v H2 => ∃ n : Nat, v = .int n ∧ n ≤ sizeLine ∧ Q (.int n) H2) E
theorem call_lenOwn (hm : Meth X.K C "__len__" f) (F : FnOk X.prog X.w X.K X.mg X.base CX k f fd ps sp) (hr : Room (k + 1) X.A) (hb : Binds X.K fd ps []) (hx : Passes CX X E) :
    CallR X (.builtin "len") (rLenOwn C sp E) := by
  intro pins s σ H xs us Q I r h
  obtain ⟨a, dx, fs, rfl, e, q⟩ := h
  obtain ⟨u, rfl, ru⟩ := vals1 r
  obtain rfl : u = Value.ref a := ru
  obtain ⟨mA, O, _, _, _, _⟩ := ins_get I.hok e
  obtain ⟨od, ho, _⟩ := lookIn_ns O.ns
  have IA : PySem.W.InstAt s.heap a (PySem.W.instObj C dx) C (some od) := ⟨O.obj, rfl, rfl, ho⟩
  refine Calls.call_function_entry kind_len plain_len entry_len (args_len1 _) ?_
  unfold Builtin.«len»
  refine wpAny_bind (m := oneArg "len" _) (wpAny_pure ?_)
  refine wpAny_bind (m := callSpecial? (.ref a) (Str.ofString "__len__")) (PySem.W.special_fn I.kIn IA hm.at_ (beq_iff_eq.mp hm.fn)
    (wpAny_mono (run_fn1 (us := [.ref a]) (vs := [.ref a]) F hr hb .nil hx I (.cons rfl .nil) q) (fun r s' hr' => ?_) fun _ _ y => y))
  obtain ⟨v, H', I', rv, n, rfl, hn, q'⟩ := hr'
  obtain ⟨t, rfl⟩ := (show ∃ t, r = Value.int n t from rv)
  rw [sizeLine_eq] at hn
  refine wpAny_bind (wpAny_holding (wpAny_pure ?_))
  refine wpAny_bind (wpAny_letGo ?_)
  show wpAny _ _ (if ((n : Nat) : Int) < 0 then _ else _) _ _ _
  rw [if_neg (by omega)]
  show wpAny _ _ (if ((n : Nat) : Int) ≥ 2 ^ 63 then _ else _) _ _ _
  rw [if_neg (by omega)]
  exact wpAny_bind (wpAny_mkInt (wpAny_pure ⟨_, rfl, .int n, H', I'.tok _, ⟨_, rfl⟩, q'⟩))
end
/-! ### sorted of a tuple of tuples of ints -/
section
variable {prog : Program} {w : World} {A : Around} {E : Value → Shared → Prop} {s : Shared}
theorem collect_tup {l : Addr} {vs : List Value} {Q : List Value → Shared → Prop} (hl : IsTup s.heap l vs.toArray)
    (h : Q vs { s with heap := (s.heap.push (seqObj "list" #[] 0)).update s.heap.objs.size (Obj.mapSeq (· ++ vs.toArray)) }) (hsz : vs.length ≤ sizeLine) :
    wpAny (model prog w) A (collect (.ref l)) Q E s := by
  obtain ⟨o, ho, hc, n, hd⟩ := id hl
  unfold collect
  refine wpAny_bind (wpAny_runValue (codeAny_builtin entry_proto_collect' ?_))
  show wpAny _ _ (do again (.builtin "list.__iadd__" ⟨[← newList [], .ref l], []⟩)) _ _ s
  refine wpAny_bind (wpAny_newList (wpAny_pure ⟨Code.quiet_builtin _ (by decide +kernel), codeAny_builtin entry_list_iadd' ?_⟩))
  show wpAny _ _ (Builtin.List.listExtendWith (.ref s.heap.objs.size) (.ref l) (.ref s.heap.objs.size)) _ _ { s with heap := s.heap.push (seqObj "list" #[] 0) }
  unfold Builtin.List.listExtendWith
  have ho' : (s.heap.push (seqObj "list" #[] 0)).get? l = some o := Heap.get?_push_of_some _ ho
  refine wpAny_bind (wpAny_typeOf (T := "tuple") ⟨o, ho', hc⟩ ?_)
  have ht : (Value.type "tuple" == Value.type "tuple") = true := by rfl
  rw [if_pos (by rw [ht]; simp)]
  refine wpAny_bind (listItems_at ho' hd ?_)
  refine wpAny_bind (listItems_at (xs := #[]) (n := 0) (Heap.get?_push_size _ rfl) rfl ?_)
  rw [if_neg (by simp)]
  refine wpAny_bind (listUpdate_at (xs := #[]) (n := 0) (Heap.get?_push_size _ rfl) rfl ?_ (Nat.zero_le _) (by show (#[] ++ vs.toArray).size ≤ sizeLine + 1; simp only [Array.size_append, List.size_toArray, List.length_nil]; omega))
  refine wpAny_pure ?_
  show wpAny (model prog w) A (do
      let o ← load s.heap.objs.size
      match o.data with
      | .seq xs _ => pure xs.toList
      | _ => unsupported "internal:collect") Q E { s with heap := (s.heap.push (seqObj "list" #[] 0)).update s.heap.objs.size (Obj.mapSeq (· ++ vs.toArray)) }
  refine wpAny_bind (wpAny_load (get?_update_seq (Heap.get?_push_size _ rfl) _) ?_)
  show wpAny _ _ (pure ((#[] : Array Value) ++ vs.toArray).toList) Q E _
  rw [show ((#[] : Array Value) ++ vs.toArray).toList = vs by simp]
  exact wpAny_pure h
open TS in
theorem sorted_tupsT {l : Addr} {vs : List Value} {d : Nat} {B : Int} {Q : Value → Shared → Prop} (hl : IsTup s.heap l vs.toArray) (h64 : vs.length < 64) (hd : 1 ≤ d) (x : TupsOk s.heap d B vs)
    (h : ∀ out : Array Value, out.toList.Perm vs → out.toList.Pairwise (fun u v => code B (intsOf s.heap u) ≤ code B (intsOf s.heap v)) → Q (.ref (s.heap.objs.size + 1)) { s with heap := sortedAll s.heap vs out }) :
    wpAny (model prog w) A (call (.builtin "sorted") [.ref l]) Q E s := by
  refine Calls.call_function_entry kind_sorted plain_sorted entry_sorted (args_sorted1 _) ?_
  unfold Builtin.«sorted»
  refine wpAny_bind (m := checkCount "sorted" 1 1 _) (wpAny_pure ?_)
  refine wpAny_bind (collect_tup hl ?_ (by rw [sizeLine_eq]; omega))
  refine wpAny_bind (wpAny_newList ?_ (by rw [sizeLine_eq]; omega))
  have hsz : ((s.heap.push (seqObj "list" #[] 0)).update s.heap.objs.size (Obj.mapSeq (· ++ vs.toArray))).objs.size = s.heap.objs.size + 1 := by
    rw [Heap.size_update, size_push']
  have hoL : (((s.heap.push (seqObj "list" #[] 0)).update s.heap.objs.size (Obj.mapSeq (· ++ vs.toArray))).push (seqObj "list" vs.toArray 0)).get? (s.heap.objs.size + 1) = some (seqObj "list" vs.toArray 0) := by
    rw [← hsz]; exact Heap.get?_push_size _ rfl
  have keep : ∀ b o, s.heap.get? b = some o → o.cls = .type "tuple" → (((s.heap.push (seqObj "list" #[] 0)).update s.heap.objs.size (Obj.mapSeq (· ++ vs.toArray))).push (seqObj "list" vs.toArray 0)).get? b = some o := fun b o q _ => by
    have hlt : b < s.heap.objs.size := Heap.lt_size q
    rw [Heap.get?_push_ne _ _ _ (by rw [hsz]; exact Nat.ne_of_lt (Nat.lt_succ_of_lt hlt)), Heap.get?_update_ne _ _ _ _ (Nat.ne_of_lt hlt), Heap.get?_push_ne _ _ _ (Nat.ne_of_lt hlt)]
    exact q
  show wpAny _ _ _ _ _ { s with heap := ((s.heap.push (seqObj "list" #[] 0)).update s.heap.objs.size (Obj.mapSeq (· ++ vs.toArray))).push (seqObj "list" vs.toArray 0) }
  rw [hsz]
  refine wpAny_bind (wpAny_holding (wpAny_call_entry slot_list_sort ⟨_, hoL, rfl⟩ entry_list_sort (sort_tups hoL h64 hd (x.keeps keep) (fun v => code B (intsOf s.heap v)) (fun v hv ns t => ?_) fun out a1 a2 => ⟨_, rfl, ?_⟩) (args_list_sort _)))
  · obtain ⟨ns0, t0, _⟩ := x v hv
    have e : ns = ns0 := t.ints.symm.trans (t0.keeps keep).ints
    rw [e]
    show code B (intsOf s.heap v) = code B ns0
    rw [t0.ints]
  · exact wpAny_pure ⟨_, rfl, h out a1 a2⟩
end
def rSortUT (K : PySem.W.Frag) (d : Nat) (B : Int) : List V → Hp → VK → Prop := fun vs H Q => ∃ (a : Addr) (xs : List V), vs = [V.ref a] ∧ SqT K H a xs ∧ xs.length < 64 ∧ (∀ x ∈ xs, ∃ ns, TupI K H x ns ∧ ns.length = d ∧ TS.Bd B ns) ∧
  ∀ (ys : List V) (p : Addr), ys.Perm xs → ys.Pairwise (fun x y => ∀ n m, TupI K H x n → TupI K H y m → TS.code B n ≤ TS.code B m) → H p = none → Q (.ref p) (upd H p (.lst ys))
theorem cr_sortTT {X : Cx} {d : Nat} {B : Int} (hd : 1 ≤ d) : CallR X (.builtin "sorted") (rSortUT X.K d B) := by
  intro pins s σ H vs us Q I r h
  obtain ⟨a, xs, rfl, hs, h64, hx, q⟩ := h
  obtain ⟨its, rv, hl, hz⟩ := I.tuple hs
  rw [Vals.ref1 r]
  obtain ⟨e1, e2⟩ := bkV_refs rv fun x m => by
    obtain ⟨ns, ⟨t, e, _⟩, _⟩ := hx x m
    exact ⟨t, e⟩
  refine sorted_tupsT (d := d) (B := B) hl (by rw [← rv.length]; exact h64) hd (fun v hv => ?_) fun out h1 h2 => ?_
  · obtain ⟨t, rfl⟩ := e2 v hv
    have hm : V.ref t ∈ xs := by
      rw [e1]
      exact List.mem_map.mpr ⟨_, hv, rfl⟩
    obtain ⟨ns, ⟨t', e, ht⟩, hn, hb⟩ := hx _ hm
    cases e
    exact ⟨ns, tupI_raw I ht, hn, hb⟩
  · obtain ⟨ep, he'⟩ := PyProof.Rows.sortedAll_at s.heap its out
    have h3 : ∀ u ∈ out.toList, ∃ a, u = Value.ref a := fun u hu => e2 u (h1.mem_iff.mp hu)
    have hp : (out.toList.map bkV).Perm xs := by
      rw [e1]
      exact h1.map bkV
    have hlen : (out.toList.map bkV).length ≤ sizeLine := by
      rw [hp.length_eq]
      exact hz
    refine ⟨.ref _, upd H (s.heap.objs.size + 1) (.lst (out.toList.map bkV)), I.laid (t' := s.toks) (fun _ _ => PyProof.Rows.sortedAll_old) (Nat.le_succ _) ⟨hlen, out.toList, ep, bkV_vals h3, he'⟩, rfl, q _ _ hp ?_ (I.hok.fresh (Nat.le_succ _))⟩
    rw [List.pairwise_map]
    refine List.Pairwise.imp (fun {u v} huv n m hn hm => ?_) h2
    obtain ⟨t, et, ht⟩ := hn
    obtain ⟨t', et', ht'⟩ := hm
    have eu := bkV_ref et
    have ev := bkV_ref et'
    have i1 : TS.intsOf s.heap u = n := by
      rw [eu]
      exact (tupI_raw I ht).ints
    have i2 : TS.intsOf s.heap v = m := by
      rw [ev]
      exact (tupI_raw I ht').ints
    rw [← i1, ← i2]
    exact huv
end G0
namespace G0
open PySem PySem.Spec PyProof.Rows L2
/-! ### data -/
mutual
def noL : PyData → Bool
  | .none | .bool _ | .int _ | .str _ => true
  | .list _ | .dict _ => false
  | .tuple xs => noLs xs
def noLs : List PyData → Bool
  | [] => true
  | x :: xs => noL x && noLs xs
end
section
variable {K : PySem.W.Frag} {H H' : Hp} {p : Addr}
theorem sqt_chg (hp : ∃ xs, H p = some (.lst xs)) (c : Chg p H H') {a : Addr} {xs : List V} (h : SqT K H a xs) : SqT K H' a xs := by
  obtain ⟨ys, hp⟩ := hp
  rcases h with (h | ⟨o, h⟩) | h
  · exact .inl (.inl (c _ _ (ne_of h hp (by intro z; cases z)) h))
  · exact .inl (.inr ⟨o, c _ _ (ne_of h hp (by intro z; cases z)) h⟩)
  · exact .inr h
theorem sqt_same (c : Same H H') {a : Addr} {xs : List V} (h : SqT K H a xs) : SqT K H' a xs := by
  rcases h with (h | ⟨o, h⟩) | h
  · exact .inl (.inl (c _ _ h))
  · exact .inl (.inr ⟨o, c _ _ h⟩)
  · exact .inr h
mutual
theorem dp_chg (hp : ∃ xs, H p = some (.lst xs)) (c : Chg p H H') : ∀ (d : PyData) (v : V), noL d = true → Dp K H v d → Dp K H' v d
  | .none, _, _, h => by cases h; exact .non
  | .bool _, _, _, h => by cases h; exact .bl _
  | .int _, _, _, h => by cases h; exact .int _
  | .str _, _, _, h => by cases h; exact .str _
  | .list _, _, n, _ => by simp [noL] at n
  | .dict _, _, n, _ => by simp [noL] at n
  | .tuple ds, _, n, h => by
    cases h with
    | tup hs ha => exact .tup (sqt_chg hp c hs) (dps_chg hp c ds _ (by simpa [noL] using n) ha)
theorem dps_chg (hp : ∃ xs, H p = some (.lst xs)) (c : Chg p H H') : ∀ (ds : List PyData) (vs : List V), noLs ds = true → DpAll K H vs ds → DpAll K H' vs ds
  | [], _, _, h => by cases h; exact .nil
  | d :: ds, _, n, h => by
    simp only [noLs, Bool.and_eq_true] at n
    cases h with
    | cons h1 h2 => exact .cons (dp_chg hp c d _ n.1 h1) (dps_chg hp c ds _ n.2 h2)
end
mutual
theorem dp_same (c : Same H H') : ∀ (d : PyData) (v : V), Dp K H v d → Dp K H' v d
  | .none, _, h => by cases h; exact .non
  | .bool _, _, h => by cases h; exact .bl _
  | .int _, _, h => by cases h; exact .int _
  | .str _, _, h => by cases h; exact .str _
  | .list ds, _, h => by
    cases h with
    | lst hs ha => exact .lst (c.seq hs) (dps_same c ds _ ha)
  | .dict _, _, h => by cases h
  | .tuple ds, _, h => by
    cases h with
    | tup hs ha => exact .tup (sqt_same c hs) (dps_same c ds _ ha)
theorem dps_same (c : Same H H') : ∀ (ds : List PyData) (vs : List V), DpAll K H vs ds → DpAll K H' vs ds
  | [], _, h => by cases h; exact .nil
  | d :: ds, _, h => by
    cases h with
    | cons h1 h2 => exact .cons (dp_same c d _ h1) (dps_same c ds _ h2)
end
theorem dps_app {vs ws : List V} {ds es : List PyData} : DpAll K H vs ds → DpAll K H ws es → DpAll K H (vs ++ ws) (ds ++ es) := by
  intro h g
  match vs, ds, h with
  | [], [], _ => exact g
  | _ :: _, _ :: _, .cons h1 h2 => exact .cons h1 (dps_app h2 g)
theorem dps_len {vs : List V} {ds : List PyData} : DpAll K H vs ds → vs.length = ds.length := by
  intro h
  match vs, ds, h with
  | [], [], _ => rfl
  | _ :: _, _ :: _, .cons _ h2 => exact congrArg (· + 1) (dps_len h2)
end
theorem noLs_of : ∀ {ds : List PyData}, (∀ d ∈ ds, noL d = true) → noLs ds = true
  | [], _ => rfl
  | d :: ds, h => by
    simp only [noLs, Bool.and_eq_true]
    exact ⟨h d (List.mem_cons_self ..), noLs_of fun x hx => h x (List.mem_cons_of_mem _ hx)⟩
/-! ### things and letters -/
inductive Thing : Nat → PyData → Prop
  | num {n : Nat} {i : Int} : 0 ≤ i → i < 10 ^ 60 → Thing n (.int i)
  | tup {n : Nat} {ds : List PyData} : ds.length ≤ 2 → (∀ d ∈ ds, Thing n d) → Thing (n + 1) (.tuple ds)
theorem Thing.noL {n : Nat} {d : PyData} (h : Thing n d) : noL d = true := by
  induction h with
  | num _ _ => rfl
  | tup _ _ ih =>
    simp only [G0.noL]
    exact noLs_of ih
theorem Thing.mono {n m : Nat} {d : PyData} (h : Thing n d) (le : n ≤ m) : Thing m d := by
  induction h generalizing m with
  | num a b => exact .num a b
  | tup l _ ih =>
    cases m with
    | zero => omega
    | succ m => exact .tup l fun d hd => ih d hd (by omega)
def WordOk (z : Str) : Prop := 1 ≤ z.length ∧ z.length ≤ 8 ∧ (∀ c ∈ z.cps.toList, 97 ≤ c ∧ c ≤ 122) ∧ z ≠ "gone"
def LetterD (d : PyData) : Prop := ∃ (z : Str) (ds : List PyData), d = .tuple (.str z :: ds) ∧ WordOk z ∧ ds.length ≤ 5 ∧ ∀ x ∈ ds, Thing 3 x
theorem LetterD.noL {d : PyData} (h : LetterD d) : noL d = true := by
  obtain ⟨z, ds, rfl, _, _, hd⟩ := h
  simp only [G0.noL, noLs, Bool.true_and]
  exact noLs_of fun x hx => (hd x hx).noL
theorem Chg.mut {p D : Addr} {H0 H1 : Hp} {o : HO} (a : Chg p H0 H1) (n : H0 D = none) : Chg p H0 (upd H1 D o) := fun b u m e => by
  rw [upd_ne (ne_of_none e n)]; exact a b u m e
theorem PotAt.ne {n : Nat} {H H' : Hp} {p D : Addr} {o : HO} (h : PotAt n H p) (d : p ≠ D) (e : H' = upd H D o) : PotAt n H' p := by
  obtain ⟨xs, q, r⟩ := h
  exact ⟨xs, by rw [e, upd_ne d]; exact q, r⟩
theorem PotAt.new {n : Nat} {H : Hp} {p D : Addr} {o : HO} (h : PotAt n H p) (d : H D = none) : PotAt n (upd H D o) p := h.keep (same_upd d)
theorem PotAt.neD {n : Nat} {H : Hp} {p D : Addr} (h : PotAt n H p) (d : H D = none) : p ≠ D := by
  obtain ⟨xs, q, r⟩ := h
  exact ne_of_none q d
theorem PotAt.lst {n : Nat} {H : Hp} {p : Addr} (h : PotAt n H p) : ∃ xs, H p = some (.lst xs) := by
  obtain ⟨xs, q, r⟩ := h
  exact ⟨xs, q⟩
theorem PotAt.neT {n : Nat} {H : Hp} {p t : Addr} {xs : List V} (h : PotAt n H p) (d : H t = some (.tup xs)) : t ≠ p := by
  obtain ⟨ys, q, r⟩ := h
  exact ne_of d q (by intro z; cases z)
theorem Cal.imp {P : Program} {w : World} {K : PySem.W.Frag} {mg : Str → Option Value} {base : Heap} {x : Str} {k : Nat} {ps : List Str} {sp sp' : Sp}
    (C : Cal P w K mg base x k ps sp) (h : ∀ vs H Q E, sp' vs H Q E → sp vs H Q E) : Cal P w K mg base x k ps sp' := by
  obtain ⟨f, fd, F, r⟩ := C
  exact ⟨f, fd, ⟨fun a b c d q => F.args _ _ _ _ (h _ _ _ _ q), fun A o s H args us vs Q E fr hr he hb hv hs => F.runs A o s H args us vs Q E fr hr he hb hv (h _ _ _ _ hs)⟩, r⟩
theorem cal_no {P : Program} {w : World} {K : PySem.W.Frag} {mg : Str → Option Value} {base : Heap} {x : Str} {st : Stmt} {ps : List Str} (F : Fn K mg x st)
    (bd : ∀ (kV doc pm : Value) (an : Option Addr) (cdv ct : Value) (us : List Value), us.length = ps.length →
      bindArgs (PySem.W.fnOf x x (defArgs st) (defBody st) (defScope st) .none kV doc pm an cdv ct) ⟨us, []⟩ = pure (ps.zip us)) :
    Cal P w K mg base x 0 ps (fun _ _ _ _ => False) := by
  obtain ⟨f, fd, F, m⟩ := F
  obtain ⟨oc, od, kV, doc, pm, an, cdv, ct, osl, e, lk, c⟩ := id F.ex
  exact ⟨f, fd, ⟨fun _ _ _ _ h => h.elim, fun _ _ _ _ _ _ _ _ _ _ _ _ _ _ h => h.elim⟩, F.binds bd, m, F.kp, oc, od, osl, lk⟩
/-! ### texts of small letters -/
theorem az : ∀ j : Fin 26, (("abcdefghijklmnopqrstuvwxyz" : Str).cps.toList)[j.val]? = some (97 + j.val) := by decide +kernel
theorem az_at {d : Int} (h0 : 0 ≤ d) (h1 : d < 26) : atI ("abcdefghijklmnopqrstuvwxyz" : Str).cps.toList d = some (97 + d.toNat) := by
  have e : d = ((d.toNat : Nat) : Int) := by omega
  have q := az ⟨d.toNat, by omega⟩
  rw [e]
  exact atI_nat q
def sg (c : Nat) : Str := ⟨#[c]⟩
open TL in
theorem joinL_sg : ∀ cs : List Nat, joinL [] (cs.map fun c => [c]) = cs
  | [] => rfl
  | [c] => rfl
  | c :: d :: r => by
    show [c] ++ ([] ++ joinL [] ((d :: r).map fun c => [c])) = c :: d :: r
    rw [joinL_sg (d :: r)]
    rfl
open TL in
theorem tl_of (z : Str) : tl z = z.cps.toList := rfl
open TL in
theorem join_sg (cs : List Nat) : (Txt.join "" (cs.map sg)).cps.toList = cs := by
  rw [join_eq, ← tl_of, tl_join]
  have e : (cs.map sg).map tl = cs.map fun c => [c] := by rw [List.map_map]; rfl
  rw [e]
  exact joinL_sg cs
open TL in
theorem join_sg_len (cs : List Nat) : (Txt.join "" (cs.map sg)).length = cs.length := by
  have e := congrArg List.length (join_sg cs)
  rw [← e]
  show _ = (Txt.join "" (cs.map sg)).cps.toList.length
  simp [Str.length]
theorem sum_sg : ∀ cs : List Nat, ((cs.map sg).map (·.length)).sum = cs.length
  | [] => rfl
  | c :: r => by
    show 1 + ((r.map sg).map (·.length)).sum = r.length + 1
    rw [sum_sg r]; omega

end G0
namespace G0
open PySem PySem.Spec PyProof.Rows L2
theorem iteF' {c : Bool} {A B : Prop} (e : c = false) (h : B) : if c = true then A else B := by rw [e]; exact iteF h
theorem iteT' {c : Bool} {A B : Prop} (e : c = true) (h : A) : if c = true then A else B := by rw [e]; exact iteT h
/-! ### several lists may change -/
def ChgS (S : List Addr) (H H' : Hp) : Prop := ∀ b o, b ∉ S → H b = some o → H' b = some o
section
variable {S : List Addr} {p q : Addr} {H H' H0 H1 H2 : Hp} {o : HO}
theorem ChgS.refl : ChgS S H H := fun _ _ _ e => e
theorem ChgS.trans (a : ChgS S H H1) (b : ChgS S H1 H2) : ChgS S H H2 := fun c o n e => b c o n (a c o n e)
theorem Chg.s (h : Chg p H H') (m : p ∈ S) : ChgS S H H' := fun b o n e => h b o (fun z => n (z ▸ m)) e
theorem Same.s (h : Same H H') : ChgS S H H' := fun b o _ e => h b o e
theorem ChgS.mono {T : List Addr} (h : ChgS S H H') (m : ∀ b ∈ S, b ∈ T) : ChgS T H H' := fun b o n e => h b o (fun z => n (m b z)) e
theorem ChgS.new (a : ChgS S H H1) (n : H1 q = none) : ChgS S H (upd H1 q o) := fun b u m e => by
  rw [upd_ne (ne_of_none (a b u m e) n)]; exact a b u m e
theorem ChgS.mut (a : ChgS S H H1) (n : H q = none) : ChgS S H (upd H1 q o) := fun b u m e => by
  rw [upd_ne (ne_of_none e n)]; exact a b u m e
theorem ChgS.put (a : ChgS S H H1) (m : q ∈ S) : ChgS S H (upd H1 q o) := fun b u n e => by
  have nb : b ≠ q := fun z => n (by rw [z]; exact m)
  rw [upd_ne nb]; exact a b u n e
/-- what is new behind was new ahead -/
theorem ChgS.back (a : ChgS S H H1) (n : H1 q = none) (m : q ∉ S) : H q = none := by
  cases e : H q with
  | none => rfl
  | some u => rw [a q u m e] at n; cases n
theorem Chg.back (a : Chg p H H1) (n : H1 q = none) (m : q ≠ p) : H q = none := by
  cases e : H q with
  | none => rfl
  | some u => rw [a q u m e] at n; cases n
theorem PotAt.keepS {n : Nat} (h : PotAt n H p) (s : ChgS S H H') (m : p ∉ S) : PotAt n H' p := by
  obtain ⟨xs, e, h⟩ := h
  exact ⟨xs, s _ _ m e, h⟩
end
/-! ### lists of ints -/
section
variable {K : PySem.W.Frag} {H : Hp}
theorem dps_ints : ∀ ns : List Int, DpAll K H (ns.map V.int) (ns.map PyData.int)
  | [] => .nil
  | n :: r => .cons (.int n) (dps_ints r)
theorem dp_ints {a : Addr} {ns : List Int} (h : H a = some (.lst (ns.map V.int))) : Dp K H (.ref a) (.list (ns.map PyData.int)) := .lst (SqL.of h) (dps_ints ns)
theorem lay_ints : ∀ ns : List Int, PyData.canLayAll0 (ns.map PyData.int) = true
  | [] => by simp [PyData.canLayAll0]
  | n :: r => by simp [PyData.canLayAll0, PyData.canLay0, lay_ints r]
theorem deep_ints : ∀ ns : List Int, PyData.depthAll (ns.map PyData.int) = 0
  | [] => by simp [PyData.depthAll]
  | n :: r => by simp [PyData.depthAll, PyData.depth, deep_ints r]
theorem shaped_ints (ns : List Int) : SeqAt.shaped (.list (ns.map PyData.int)) = true := by
  show ((PyData.list (ns.map PyData.int)).canLay0 && decide ((PyData.list (ns.map PyData.int)).depth ≤ 64)) = true
  simp [PyData.canLay0, PyData.depth, lay_ints, deep_ints]
theorem flat_ints : ∀ ns : List Int, (ns.map V.int).all flatV = true
  | [] => rfl
  | n :: r => by simp [flatV, flat_ints r]
theorem inV_ints (v : Int) : ∀ ns : List Int, inV (.int v) (ns.map V.int) = decide (v ∈ ns)
  | [] => by simp [inV]
  | n :: r => by
    have ih := inV_ints v r
    unfold inV at ih ⊢
    rw [List.map_cons, List.any_cons, ih]
    show ((n == v) || decide (v ∈ r)) = decide (v ∈ n :: r)
    by_cases e : n = v
    · subst e; simp
    · have e' : ¬ v = n := fun z => e z.symm
      simp [e, e']
theorem at_ints {ns : List Int} {d : Int} (h0 : 0 ≤ d) (h1 : d < ns.length) : ∃ v, v ∈ ns ∧ atI (ns.map V.int) d = some (.int v) := by
  have hk : d.toNat < ns.length := by omega
  have ek : d = ((d.toNat : Nat) : Int) := by omega
  refine ⟨ns[d.toNat], List.getElem_mem hk, ?_⟩
  have q : atI (ns.map V.int) ((d.toNat : Nat) : Int) = some (.int ns[d.toNat]) := atI_nat (by rw [List.getElem?_map, List.getElem?_eq_getElem hk] <;> rfl)
  rw [← ek] at q
  exact q
end
/-! ### how long a repr is -/
mutual
def cost : PyData → Nat
  | .none => 4
  | .bool _ => 5
  | .int _ => 1921
  | .str x => 10 * x.length + 2
  | .list xs => 2 + costs xs
  | .tuple xs => 4 + costs xs
  | .dict _ => 0
def costs : List PyData → Nat
  | [] => 0
  | x :: xs => cost x + 2 + costs xs
end
theorem from_le : ∀ (ts : List Str) (k : Nat) (acc : Str), (textFrom k acc ts).length ≤ acc.length + (ts.map fun t => t.length + 2).sum
  | [], k, acc => by show acc.length ≤ _; simp
  | t :: r, k, acc => by
    have ih := from_le r (k + 1) (acc ++ (if k > 0 then ", " else "" : String) ++ t)
    show (textFrom (k + 1) _ r).length ≤ _
    rw [List.map_cons, List.sum_cons]
    rw [Str.length_append, Str.length_append] at ih
    have sep : (Str.ofString (if k > 0 then ", " else "")).length ≤ 2 := by split <;> decide
    omega
theorem join_le : ∀ ts : List Str, (Str.join ", " ts).length ≤ (ts.map fun t => t.length + 2).sum
  | [] => by decide
  | [x] => by show x.length ≤ _; simp
  | x :: y :: r => by
    have ih := join_le (y :: r)
    show (x ++ (", " : Str) ++ Str.join ", " (y :: r)).length ≤ _
    rw [Str.length_append, Str.length_append, List.map_cons, List.sum_cons]
    have : (", " : Str).length = 2 := by decide
    omega
theorem small_cps {x : Str} (h : PyData.strOk x = true) : ∀ c ∈ x.cps.toList, c < 16 ^ 8 := fun c hc => by
  unfold PyData.strOk at h
  rw [Array.all_eq_true_iff_forall_mem] at h
  have := of_decide_eq_true (h c (Array.mem_toList_iff.mp hc))
  omega
mutual
theorem shown_le : ∀ d : PyData, d.showable = true → d.canLay0 = true → d.shown.length ≤ cost d
  | .none, _, _ => by show (("None" : Str)).length ≤ 4; decide
  | .bool b, _, _ => by cases b <;> (simp only [PyData.shown, cost]; decide)
  | .int i, h, _ => by
    simp only [PyData.shown, cost]
    exact int_text_len_1921 (by simpa [PyData.showable] using h)
  | .str x, _, h => by
    simp only [PyData.shown, cost]
    exact StrLaws.reprText_len x (small_cps (by simpa [PyData.canLay0] using h))
  | .list xs, h, l => by
    have ih := shown_les xs (by simpa [PyData.showable] using h) (by simpa [PyData.canLay0] using l)
    simp only [PyData.shown, cost]
    show (textFrom 0 "[" (PyData.shownAll xs) ++ ("]" : Str)).length ≤ _
    have := from_le (PyData.shownAll xs) 0 "["
    have a : ("[" : Str).length = 1 := by decide
    have b : ("]" : Str).length = 1 := by decide
    rw [Str.length_append]
    omega
  | .tuple xs, h, l => by
    have ih := shown_les xs (by simpa [PyData.showable] using h) (by simpa [PyData.canLay0] using l)
    simp only [PyData.shown, cost]
    show (("(" : Str) ++ Str.join ", " (PyData.shownAll xs) ++ (Str.ofString (if (PyData.shownAll xs).length == 1 then ",)" else ")"))).length ≤ _
    have := join_le (PyData.shownAll xs)
    have a : ("(" : Str).length = 1 := by decide
    have b : (Str.ofString (if (PyData.shownAll xs).length == 1 then ",)" else ")")).length ≤ 2 := by split <;> decide
    rw [Str.length_append, Str.length_append]
    omega
  | .dict _, _, h => by simp [PyData.canLay0] at h
theorem shown_les : ∀ ds : List PyData, PyData.showableAll ds = true → PyData.canLayAll0 ds = true → ((PyData.shownAll ds).map fun t => t.length + 2).sum ≤ costs ds
  | [], _, _ => Nat.le_refl _
  | d :: ds, h, l => by
    simp only [PyData.showableAll, Bool.and_eq_true] at h
    simp only [PyData.canLayAll0, Bool.and_eq_true] at l
    have h1 := shown_le d h.1 l.1
    have h2 := shown_les ds h.2 l.2
    simp only [PyData.shownAll, costs, List.map_cons, List.sum_cons]
    omega
end

end G0
namespace G0
open PySem PySem.Spec PyProof.Rows L2
def top (i : Nat) : Stmt := PySem.Challenge.pw_soleseat_k61_votes_asked_for.main.body.getD i (.Pass ⟨0, 0, 0, 0⟩)
abbrev s_wall : Stmt := top 0
abbrev s_Desk__init : Stmt := inClass (top 2) 0
abbrev s_Desk_take_ask : Stmt := inClass (top 2) 1
abbrev s_Desk_take_given : Stmt := inClass (top 2) 2
abbrev s_Desk_take_done : Stmt := inClass (top 2) 3
abbrev s_Desk_take_gone : Stmt := inClass (top 2) 4
abbrev s_Desk__len : Stmt := inClass (top 2) 5
abbrev s_Desk_free : Stmt := inClass (top 2) 6
abbrev s_Desk_give_the_free_vote : Stmt := inClass (top 2) 7
abbrev s_law_draws : Stmt := top 4
abbrev s_law_same : Stmt := top 5
abbrev s_law_stamp : Stmt := top 6
abbrev s_law_desk : Stmt := top 7
abbrev s_law_cells : Stmt := top 8
abbrev s_law : Stmt := top 9
section
structure BlD (mg : Str → Option Value) : Prop where
  len : mg "len" = none
  range : mg "range" = none
  tuple : mg "tuple" = none
  list : mg "list" = none
  isinstance : mg "isinstance" = none
  bool : mg "bool" = none
  sorted : mg "sorted" = none
  sum : mg "sum" = none
  int : mg "int" = none
  min : mg "min" = none
variable {P : Program} {w : World} {K : PySem.W.Frag} {mg : Str → Option Value} {base : Heap}
theorem u66 {k : Nat} {A : Around} (hr : Room k A) : A.units + 66 < cLine := by have := hr.un; omega
theorem u65 {k : Nat} {A : Around} (hr : Room k A) : A.units + 65 < cLine := by have := hr.un; omega
theorem u64 {k : Nat} {A : Around} (hr : Room k A) : A.units + 64 < cLine := by have := hr.un; omega
theorem u0 {k : Nat} {A : Around} (hr : Room k A) : A.units < cLine := by have := hr.un; omega
/-! ### _law_draws -/
def Below (ds ts : List Int) : Prop := ∀ (i : Nat) (v : Int), ds[i]? = some v → ∃ m, ts[i]? = some m ∧ 0 ≤ v ∧ v < m
theorem Below.nil {ts : List Int} : Below [] ts := fun i v h => by simp at h
theorem Below.snoc {ds ts : List Int} {v m : Int} (h : Below ds ts) (e : ts[ds.length]? = some m) (h0 : 0 ≤ v) (h1 : v < m) : Below (ds ++ [v]) ts := fun i u hu => by
  by_cases c : i < ds.length
  · exact h i u (by rw [List.getElem?_append_left c] at hu; exact hu)
  · rw [List.getElem?_append_right (by omega)] at hu
    have z : i - ds.length = 0 := by
      cases q : i - ds.length with
      | zero => rfl
      | succ n => rw [q] at hu; simp at hu
    rw [z] at hu
    simp at hu
    subst hu
    have : i = ds.length := by omega
    subst this
    exact ⟨m, e, h0, h1⟩
def spDraws : Sp := fun vs H Q _ => ∃ (t : Addr) (c : Int) (ts : List Int), vs = [.int c, .ref t] ∧ H t = some (.lst (ts.map V.int)) ∧ Builtin.Int.intBits c ≤ 1048576 ∧
  (∀ x ∈ ts, 0 < x ∧ x.natAbs < 2 ^ 250) ∧ ts.length ≤ 10 ∧ ∀ (l : Addr) (ds : List Int), H l = none → ds.length = ts.length → Below ds ts → Q (.ref l) (upd H l (.lst (ds.map V.int)))
theorem bits_le {c : Int} {n : Nat} (h : Builtin.Int.intBits c ≤ n) : c.natAbs < 2 ^ n := by
  unfold Builtin.Int.intBits at h
  by_cases z : c = 0
  · subst z; exact Nat.two_pow_pos n
  · have z' : (c == 0) = false := by simpa using z
    rw [z', if_neg (by simp)] at h
    exact Nat.lt_of_lt_of_le (Nat.lt_log2_self) (Nat.pow_le_pow_right (by decide) h)
theorem bits_add {c d : Int} {n : Nat} (h : Builtin.Int.intBits c ≤ n) (hd : d.natAbs < 2 ^ n) : Builtin.Int.intBits (c + d) ≤ n + 1 := by
  have h1 := bits_le h
  refine PyProof.Rows.intBits_le ?_
  have h2 : (2 : Nat) ^ (n + 1) = 2 ^ n + 2 ^ n := by rw [Nat.pow_succ]; omega
  rw [h2]
  have : (c + d).natAbs ≤ c.natAbs + d.natAbs := Int.natAbs_add_le c d
  omega
theorem pow_cell {c d : Int} (h : Builtin.Int.intBits c ≤ 1048576) (hd : d.natAbs < 2 ^ 64) : CPowB (c + d) 3 := by
  refine ⟨by decide, ?_⟩
  have := bits_add (d := d) h (Nat.lt_of_lt_of_le hd (Nat.pow_le_pow_right (by decide) (by decide)))
  have e : (2 : Int) ^ 27 = 134217728 := by decide
  rw [e]
  omega
theorem sc_law_draws : FnScope ["cell", "tops", "out", "rest", "k", "one"] ["cell", "tops"] (defScope s_law_draws) :=
  ⟨rfl, rfl, rfl, by decide +kernel, rfl, by decide +kernel, by decide +kernel⟩
theorem ok_draws (F : Fn K mg "_law_draws" s_law_draws) (T : BlD mg) : Cal P w K mg base "_law_draws" 1 ["cell", "tops"] spDraws := by
  refine cal_of F sc_law_draws
    (fun _ _ _ _ _ _ us hl => match us, hl with | [_, _], _ => rfl) ?_ ?_
  · rintro vs H Q E ⟨t, c, ts, rfl, _⟩
    rfl
  rintro f cdv A outer s H vs Q E free hr ⟨t, c, ts, rfl, ht, hc, pos, tl, q⟩
  refine ⟨_, (pss_cons (ps_set (i := 2) sc_law_draws.nd rfl (Or.inl rfl) (pe_lst pa_nil))
    (pss_cons (ps_set (i := 3) sc_law_draws.nd rfl (Or.inl rfl) (pe_op op_sub (pv 0) (pe_op op_pow pe_int pe_int)))
    (pss_cons (ps_for PassesOwn.never rfl (pi_range1 (by rfl) T.range (pa_cons (pe_callB call_len_seq (by rfl) T.len (by decide +kernel) (pa_cons (pv 1) pa_nil)) pa_nil)) (pg_name (i := 4) sc_law_draws.nd rfl (Or.inl rfl))
    (pss_one (ps_if (pt_cmpR op_ge (pv 3) pe_int (nomark _))
    (pss_cons (ps_expr (pe_bm PySem.F.plainAttrs_list PySem.F.slot_list_append PySem.F.type_list_append mt_append (pv 2) (pa_cons (pe_op op_mod (pv 3) (pe_ix ix_list (pv 1) (pv 4) (fun _ _ => rfl))) pa_nil)))
    (pss_one (ps_set (i := 3) sc_law_draws.nd rfl (Or.inl rfl) (pe_op op_fdivW (pv 3) (pe_ix ix_list (pv 1) (pv 4) (fun _ _ => rfl))))))
    (pss_cons (ps_set (i := 5) sc_law_draws.nd rfl (Or.inl rfl) (pe_op op_mod (pe_op op_powB (pe_op op_add (pv 0) (pe_op op_mul pe_int (pe_op op_add (pv 4) pe_int))) pe_int) pe_int))
    (pss_cons (ps_set (i := 5) sc_law_draws.nd rfl (Or.inl rfl) (pe_op op_fdivW (pe_op op_mod (pe_op op_mul (pv 5) (pe_op op_add (pv 5) pe_int)) pe_int) pe_int))
    (pss_cons (ps_if (pt_cmpR op_gt (pe_ix ix_list (pv 1) (pv 4) (fun _ _ => rfl)) (pe_op op_pow pe_int pe_int) (nomark _))
    (pss_one (ps_set (i := 5) sc_law_draws.nd rfl (Or.inl rfl) (pe_op op_pow (pv 5) pe_int)))
    pss_nil)
    (pss_one (ps_expr (pe_bm PySem.F.plainAttrs_list PySem.F.slot_list_append PySem.F.type_list_append mt_append (pv 2) (pa_cons (pe_op op_mod (pv 5) (pe_ix ix_list (pv 1) (pv 4) (fun _ _ => rfl))) pa_nil))))))))))
    (pss_one (ps_ret (pv 2)))))), ?_⟩
  refine ⟨Nat.zero_le _, fun D hD => ?_⟩
  have nDt : t ≠ D := ne_of_none ht hD
  refine ⟨_, rfl, _, _, rfl, rfl, ⟨by decide, by decide, by decide⟩, _, _, rfl, rfl, ?_⟩
  refine ⟨_, rfl, t, _, rfl, .inl (SqL.of (same_upd hD _ _ ht)), _, rfl, ?_⟩
  have hl : (ts.map V.int).length = ts.length := List.length_map _
  rw [hl]
  refine ⟨by omega, by omega, ?_⟩
  refine for_range (lo := 0) (n := ts.length) (fun i σ G => ∃ (r : Int) (k o : Option V) (ds : List Int), σ = [some (V.int c), some (V.ref t), some (V.ref D), some (V.int r), k, o] ∧
    G = upd H D (.lst (ds.map V.int)) ∧ ds.length = i ∧ Below ds ts)
    ⟨_, _, _, [], rfl, rfl, rfl, Below.nil⟩ ?_ ?_
  · rintro i σ G hi ⟨r, k, o, ds, rfl, rfl, hds, hb⟩
    have ik : i < ts.length := hi
    obtain ⟨m, hm⟩ : ∃ m, m = ts[i] := ⟨_, rfl⟩
    have tsi : ts[ds.length]? = some m := by rw [hds, hm]; exact List.getElem?_eq_getElem ik
    have at_ : atI (ts.map V.int) (0 + (i : Int)) = some (.int m) := by
      have e : (0 : Int) + (i : Int) = ((i : Nat) : Int) := by omega
      rw [e]
      exact atI_nat (by rw [List.getElem?_map, List.getElem?_eq_getElem ik, ← hm] <;> rfl)
    obtain ⟨m0, mb⟩ := pos m (by rw [hm]; exact List.getElem_mem ik)
    have hT : upd H D (.lst (ds.map V.int)) t = some (.lst (ts.map V.int)) := same_upd hD _ _ ht
    have self : upd H D (.lst (ds.map V.int)) D = some (.lst (ds.map V.int)) := upd_same
    have sm : ds.length < sizeLine := Nat.lt_of_lt_of_le (show ds.length < 100 by omega) (by decide)
    refine ⟨_, rfl, _, _, rfl, rfl, _, rfl, ?_⟩
    refine ite2 (fun c1 => ?_) (fun c1 => ?_)
    · refine ⟨_, rfl, .inl ⟨rfl, _, SqL.of self⟩, _, rfl, _, rfl, _, rfl, t, _, _, _, rfl, rfl, SqL.of hT, at_, _, _, rfl, rfl, m0, ?_⟩
      refine ⟨D, _, _, rfl, rfl, self, by rw [List.length_map]; exact sm, ?_⟩
      rw [upd_upd]
      refine ⟨_, rfl, _, rfl, _, rfl, t, _, _, _, rfl, rfl, SqL.of (same_upd hD _ _ ht), at_, _, _, rfl, rfl, wide_div m0 mb (by decide) (by decide), ?_⟩
      exact ⟨_, _, _, ds ++ [r % m], rfl, by rw [List.map_append]; rfl, by rw [List.length_append, List.length_singleton]; omega,
        hb.snoc tsi (Int.emod_nonneg _ (by omega)) (Int.emod_lt_of_pos _ m0)⟩
    · refine ⟨_, rfl, _, rfl, _, _, rfl, rfl, _, _, rfl, rfl, .inl ⟨by decide, by decide⟩, _, _, rfl, rfl, _, _, rfl, rfl, pow_cell hc ?_, _, _, rfl, rfl, (by show (0 : Int) < 2147483629; decide), ?_⟩
      · have : (7919 * (0 + (i : Int) + 1)).natAbs < 2 ^ 64 := by omega
        exact this
      generalize ho : (c + 7919 * (0 + (i : Int) + 1)) ^ (Int.toNat 3) % 2147483629 = one
      have o0 : 0 ≤ one := by rw [← ho]; exact Int.emod_nonneg _ (by decide)
      have o1 : one < 2147483629 := by rw [← ho]; exact Int.emod_lt_of_pos _ (by decide)
      refine ⟨_, rfl, _, rfl, _, _, rfl, rfl, _, _, rfl, rfl, .inl ⟨by omega, by omega⟩, _, _, rfl, rfl, (by show (0 : Int) < 2147483587; decide), _, _, rfl, rfl, wide_div (b := 10) (by decide) (by decide) (by decide) (by decide), ?_⟩
      generalize hu : one * (one + 104729) % 2147483587 / 8 = two
      have u0 : 0 ≤ two := by rw [← hu]; exact Int.ediv_nonneg (Int.emod_nonneg _ (by decide)) (by decide)
      have u1 : two < 2147483587 := by
        have := Int.emod_lt_of_pos (one * (one + 104729)) (show (0 : Int) < 2147483587 by decide)
        rw [← hu]
        omega
      refine ⟨_, rfl, _, rfl, t, _, _, _, rfl, rfl, SqL.of hT, at_, _, _, rfl, rfl, ⟨by decide, by decide, by decide⟩, _, _, rfl, rfl, _, rfl, ?_⟩
      refine ite2 (fun c2 => ?_) (fun c2 => ?_)
      · have h2 : two.natAbs < 2 ^ 64 := by omega
        refine ⟨_, rfl, _, _, rfl, rfl, ⟨by decide, by decide, (by subst hu; subst ho; exact h2)⟩, ?_⟩
        obtain ⟨six, hs⟩ : ∃ six, six = two ^ (Int.toNat 6) := ⟨_, rfl⟩
        refine ⟨_, rfl, .inl ⟨rfl, _, SqL.of self⟩, _, rfl, _, rfl, _, rfl, t, _, _, _, rfl, rfl, SqL.of hT, at_, _, _, rfl, rfl, m0, ?_⟩
        refine ⟨D, _, _, rfl, rfl, self, by rw [List.length_map]; exact sm, ?_⟩
        rw [upd_upd]
        exact ⟨_, _, _, ds ++ [six % m], rfl, by rw [List.map_append]; (subst hs; subst hu; subst ho); rfl, by rw [List.length_append, List.length_singleton]; omega,
          hb.snoc tsi (Int.emod_nonneg _ (by omega)) (Int.emod_lt_of_pos _ m0)⟩
      · skip
        refine ⟨_, rfl, .inl ⟨rfl, _, SqL.of self⟩, _, rfl, _, rfl, _, rfl, t, _, _, _, rfl, rfl, SqL.of hT, at_, _, _, rfl, rfl, m0, ?_⟩
        refine ⟨D, _, _, rfl, rfl, self, by rw [List.length_map]; exact sm, ?_⟩
        rw [upd_upd]
        exact ⟨_, _, _, ds ++ [two % m], rfl, by rw [List.map_append]; (subst hu; subst ho); rfl, by rw [List.length_append, List.length_singleton]; omega,
          hb.snoc tsi (Int.emod_nonneg _ (by omega)) (Int.emod_lt_of_pos _ m0)⟩
  · rintro σ G ⟨r, k, o, ds, rfl, rfl, hds, hb⟩
    exact ⟨_, rfl, q D ds hD hds hb⟩
end

end G0
namespace G0
open PySem PySem.Spec PyProof.Rows L2
section
variable {P : Program} {w : World} {K : PySem.W.Frag} {mg : Str → Option Value} {base : Heap}
/-! ### _law_same -/
inductive Lv : Nat → PyData → Prop
  | non {n : Nat} : Lv n .none
  | bl {n : Nat} (b : Bool) : Lv n (.bool b)
  | int {n : Nat} (i : Int) : Lv n (.int i)
  | str {n : Nat} (z : Str) : Lv n (.str z)
  | tup {n : Nat} {ds : List PyData} : ds.length < 10000 → (∀ d ∈ ds, Lv n d) → Lv (n + 1) (.tuple ds)
def spSameD (K : PySem.W.Frag) (n : Nat) : Sp := fun vs H Q _ => ∃ (x y : V), vs = [x, y] ∧
  ((∃ d, Lv n d ∧ Dp K H x d ∧ Dp K H y d) ∨
    ∃ (a b : Addr) (xs ys : List V) (ds : List PyData) (m : Nat), x = .ref a ∧ y = .ref b ∧ H a = some (.lst xs) ∧ H b = some (.lst ys) ∧ DpAll K H xs ds ∧ DpAll K H ys ds ∧ n = m + 1 ∧ ds.length < 10000 ∧ ∀ d ∈ ds, Lv m d) ∧ Q (.bl true) H
def spSameP (K : PySem.W.Frag) (n : Nat) : Sp := fun vs H Q E => ∃ m, n = m + 1 ∧ spSameD K m vs H Q E
theorem ty_sqt {H : Hp} {a : Addr} {xs : List V} (h : SqT K H a xs) : TyX K H (.ref a) (.type "tuple") := by
  rcases h with (h | ⟨o, h⟩) | ⟨o, its, n, h1, h2, _⟩
  · exact .base (.tup h)
  · exact .fTuple h
  · exact .kTuple h1 h2
theorem dps_get {H : Hp} {vs : List V} {ds : List PyData} (h : DpAll K H vs ds) : ∀ {i : Nat}, i < ds.length → ∃ v d, vs[i]? = some v ∧ ds[i]? = some d ∧ Dp K H v d := by
  match vs, ds, h with
  | [], [], _ => intro i e; simp at e
  | v :: vs, d :: ds, .cons h1 h2 =>
    intro i e
    cases i with
    | zero => exact ⟨v, d, rfl, rfl, h1⟩
    | succ i => exact dps_get h2 (by simpa using e)
theorem sc_law_same : FnScope ["found", "due", "k"] ["found", "due"] (defScope s_law_same) :=
  ⟨rfl, rfl, rfl, by decide +kernel, rfl, by decide +kernel, by decide +kernel⟩
theorem same_step {n j : Nat} (F : Fn K mg "_law_same" s_law_same) (T : BlD mg) (C_same : Cal P w K mg base "_law_same" j ["found", "due"] (spSameP K n)) :
    Cal P w K mg base "_law_same" (j + 1) ["found", "due"] (spSameD K n) := by
  refine cal_of F sc_law_same
    (fun _ _ _ _ _ _ us hl => match us, hl with | [_, _], _ => rfl) ?_ ?_
  · rintro vs H Q E ⟨x, y, rfl, _⟩
    rfl
  rintro f cdv A outer s H vs Q E free hr ⟨x, y, rfl, two, q⟩
  refine ⟨_, (pss_cons (ps_if (PW.pt (pw_or (pt_val (pe_callB call_isi (by rfl) T.isinstance (by decide +kernel) (pa_cons (pv 1) (pa_cons (pe_bltn (v := .ty "tuple") (by rfl) T.tuple (by decide +kernel) rfl) pa_nil)))) (pw_or1 (pt_val (pe_callB call_isi (by rfl) T.isinstance (by decide +kernel) (pa_cons (pv 1) (pa_cons (pe_bltn (v := .ty "list") (by rfl) T.list (by decide +kernel) rfl) pa_nil)))))))
    (pss_cons (ps_if (PW.pt (pw_or (pt_cmpR op_ne (pe_callB call_isi (by rfl) T.isinstance (by decide +kernel) (pa_cons (pv 0) (pa_cons (pe_bltn (v := .ty "tuple") (by rfl) T.tuple (by decide +kernel) rfl) pa_nil))) (pe_callB call_isi (by rfl) T.isinstance (by decide +kernel) (pa_cons (pv 1) (pa_cons (pe_bltn (v := .ty "tuple") (by rfl) T.tuple (by decide +kernel) rfl) pa_nil))) (nomark _)) (pw_or1 (pt_cmpR op_ne (pe_callB call_isi (by rfl) T.isinstance (by decide +kernel) (pa_cons (pv 0) (pa_cons (pe_bltn (v := .ty "list") (by rfl) T.list (by decide +kernel) rfl) pa_nil))) (pe_callB call_isi (by rfl) T.isinstance (by decide +kernel) (pa_cons (pv 1) (pa_cons (pe_bltn (v := .ty "list") (by rfl) T.list (by decide +kernel) rfl) pa_nil))) (nomark _)))))
    (pss_one (ps_ret pe_bl))
    pss_nil)
    (pss_cons (ps_if (pt_cmpR op_ne (pe_callB call_len_seq (by rfl) T.len (by decide +kernel) (pa_cons (pv 0) pa_nil)) (pe_callB call_len_seq (by rfl) T.len (by decide +kernel) (pa_cons (pv 1) pa_nil)) (nomark _))
    (pss_one (ps_ret pe_bl))
    pss_nil)
    (pss_cons (ps_for PassesOwn.never rfl (pi_range1 (by rfl) T.range (pa_cons (pe_callB call_len_seq (by rfl) T.len (by decide +kernel) (pa_cons (pv 1) pa_nil)) pa_nil)) (pg_name (i := 2) sc_law_same.nd rfl (Or.inl rfl))
    (pss_one (ps_if (pt_not (pt_val (pe_cal C_same free hr (pa_cons (pe_ix ix_seq (pv 0) (pv 2) (fun _ _ => rfl)) (pa_cons (pe_ix ix_seq (pv 1) (pv 2) (fun _ _ => rfl)) pa_nil)))))
    (pss_one (ps_ret pe_bl))
    pss_nil)))
    (pss_one (ps_ret pe_bl)))))
    pss_nil)
    (pss_one (ps_ret (pe_and (pe_cmpR op_eq (pe_callB call_isi (by rfl) T.isinstance (by decide +kernel) (pa_cons (pv 0) (pa_cons (pe_bltn (v := .ty "bool") (by rfl) T.bool (by decide +kernel) rfl) pa_nil))) (pe_callB call_isi (by rfl) T.isinstance (by decide +kernel) (pa_cons (pv 1) (pa_cons (pe_bltn (v := .ty "bool") (by rfl) T.bool (by decide +kernel) rfl) pa_nil))) (nomark _)) (pe_one (pe_cmpR op_eq (pv 0) (pv 1) (nomark _))))))), ?_⟩
  rcases two with ⟨d, lv, hx, hy⟩ | ⟨a, b, xs, ys, ds, m, rfl, rfl, ha, hb, hxs, hys, rfl, sm, hl⟩
  · cases lv with
    | non =>
      cases hx; cases hy
      refine ⟨_, rfl, _, .ty "tuple", _, _, _, rfl, .ty _, .base .non, kit_ty (r := false) (by decide +kernel), _, rfl, iteF' rfl ?_⟩
      refine ⟨_, rfl, _, .ty "list", _, _, _, rfl, .ty _, .base .non, kit_ty (r := false) (by decide +kernel), _, rfl, iteF' rfl ?_⟩
      refine ⟨_, rfl, _, .ty "bool", _, _, _, rfl, .ty _, .base .non, kit_ty (r := false) (by decide +kernel), _, rfl, _, .ty "bool", _, _, _, rfl, .ty _, .base .non, kit_ty (r := false) (by decide +kernel), rfl, ?_⟩
      refine ⟨_, by rw [decide_eq_true rfl], ?_⟩
      refine iteT ?_
      refine ⟨_, rfl, _, rfl, rfl, ?_⟩
      rw [decide_eq_true rfl]
      exact q
    | bl b =>
      cases hx; cases hy
      refine ⟨_, rfl, _, .ty "tuple", _, _, _, rfl, .ty _, .base (.bl _), kit_ty (r := false) (by decide +kernel), _, rfl, iteF' rfl ?_⟩
      refine ⟨_, rfl, _, .ty "list", _, _, _, rfl, .ty _, .base (.bl _), kit_ty (r := false) (by decide +kernel), _, rfl, iteF' rfl ?_⟩
      refine ⟨_, rfl, _, .ty "bool", _, _, _, rfl, .ty _, .base (.bl _), kit_ty (r := true) (by decide +kernel), _, rfl, _, .ty "bool", _, _, _, rfl, .ty _, .base (.bl _), kit_ty (r := true) (by decide +kernel), rfl, ?_⟩
      refine ⟨_, by rw [decide_eq_true rfl], ?_⟩
      refine iteT ?_
      refine ⟨_, rfl, _, rfl, rfl, ?_⟩
      rw [decide_eq_true rfl]
      exact q
    | int i =>
      cases hx; cases hy
      refine ⟨_, rfl, _, .ty "tuple", _, _, _, rfl, .ty _, .base (.int _), kit_ty (r := false) (by decide +kernel), _, rfl, iteF' rfl ?_⟩
      refine ⟨_, rfl, _, .ty "list", _, _, _, rfl, .ty _, .base (.int _), kit_ty (r := false) (by decide +kernel), _, rfl, iteF' rfl ?_⟩
      refine ⟨_, rfl, _, .ty "bool", _, _, _, rfl, .ty _, .base (.int _), kit_ty (r := false) (by decide +kernel), _, rfl, _, .ty "bool", _, _, _, rfl, .ty _, .base (.int _), kit_ty (r := false) (by decide +kernel), rfl, ?_⟩
      refine ⟨_, by rw [decide_eq_true rfl], ?_⟩
      refine iteT ?_
      refine ⟨_, rfl, _, rfl, rfl, ?_⟩
      rw [decide_eq_true rfl]
      exact q
    | str z =>
      cases hx; cases hy
      refine ⟨_, rfl, _, .ty "tuple", _, _, _, rfl, .ty _, .base (.str _), kit_ty (r := false) (by decide +kernel), _, rfl, iteF' rfl ?_⟩
      refine ⟨_, rfl, _, .ty "list", _, _, _, rfl, .ty _, .base (.str _), kit_ty (r := false) (by decide +kernel), _, rfl, iteF' rfl ?_⟩
      refine ⟨_, rfl, _, .ty "bool", _, _, _, rfl, .ty _, .base (.str _), kit_ty (r := false) (by decide +kernel), _, rfl, _, .ty "bool", _, _, _, rfl, .ty _, .base (.str _), kit_ty (r := false) (by decide +kernel), rfl, ?_⟩
      refine ⟨_, by rw [decide_eq_true rfl], ?_⟩
      refine iteT ?_
      refine ⟨_, rfl, _, rfl, rfl, ?_⟩
      rw [decide_eq_true rfl]
      exact q
    | tup sm hl =>
      cases hx with
      | tup hx hxs =>
      cases hy with
      | tup hy hys =>
      rename_i m ds a xs b ys
      have lxy : xs.length = ys.length := (dps_len hxs).trans (dps_len hys).symm
      have ly := dps_len hys
      refine ⟨_, rfl, _, .ty "tuple", _, _, _, rfl, .ty _, ty_sqt hy, kit_ty (r := true) (by decide +kernel), _, rfl, iteT' rfl ?_⟩
      refine iteT ?_
      refine ⟨_, rfl, _, .ty "tuple", _, _, _, rfl, .ty _, ty_sqt hx, kit_ty (r := true) (by decide +kernel), _, rfl, _, .ty "tuple", _, _, _, rfl, .ty _, ty_sqt hy, kit_ty (r := true) (by decide +kernel), rfl, ?_⟩
      refine ⟨_, by rw [decide_eq_true rfl], ?_⟩
      refine iteF' rfl ?_
      refine ⟨_, rfl, _, .ty "list", _, _, _, rfl, .ty _, (ty_sqt hx), kit_ty (r := false) (by decide +kernel), _, rfl, _, .ty "list", _, _, _, rfl, .ty _, (ty_sqt hy), kit_ty (r := false) (by decide +kernel), rfl, ?_⟩
      refine ⟨_, by rw [decide_eq_true rfl], ?_⟩
      refine iteF' rfl ?_
      refine ⟨_, rfl, a, xs, rfl, (.inr hx), _, rfl, b, ys, rfl, (.inr hy), rfl, ?_⟩
      refine ⟨_, by rw [lxy, decide_eq_true rfl], ?_⟩
      refine iteF' rfl ?_
      refine ⟨_, rfl, b, ys, rfl, (.inr hy), _, rfl, by omega, by omega, ?_⟩
      refine for_range (lo := 0) (n := ys.length) (fun i σ G => (∃ k : Option V, σ = [some (V.ref a), some (V.ref b), k]) ∧ G = H) ⟨⟨_, rfl⟩, rfl⟩ ?_ ?_
      · rintro i σ G hi ⟨⟨k, rfl⟩, rfl⟩
        obtain ⟨v, d, e1, e2, dv⟩ := dps_get hxs (i := i) (by omega)
        obtain ⟨u, d', e3, e4, du⟩ := dps_get hys (i := i) (by omega)
        have dd : d' = d := by rw [e2] at e4; exact (Option.some.inj e4).symm
        subst dd
        have ei : (0 : Int) + (i : Int) = ((i : Nat) : Int) := by omega
        have a1 : atI xs (0 + (i : Int)) = some v := by rw [ei]; exact atI_nat e1
        have a2 : atI ys (0 + (i : Int)) = some u := by rw [ei]; exact atI_nat e3
        refine ⟨_, rfl, _, rfl, (.inr (.inl ⟨a, xs, _, v, rfl, rfl, hx, a1, _, rfl, _, rfl, (.inr (.inl ⟨b, ys, _, u, rfl, rfl, hy, a2, ?_⟩))⟩))⟩
        refine ⟨m, rfl, v, u, rfl, .inl ⟨d', hl _ (List.mem_of_getElem? e2), dv, du⟩, ?_⟩
        refine ⟨_, rfl, ?_⟩
        refine iteF' rfl ?_
        exact ⟨⟨_, rfl⟩, rfl⟩
      · rintro σ G ⟨⟨k, rfl⟩, rfl⟩
        exact q
  · have lxy : xs.length = ys.length := (dps_len hxs).trans (dps_len hys).symm
    have ly := dps_len hys
    refine ⟨_, rfl, _, .ty "tuple", _, _, _, rfl, .ty _, .base (.lst hb), kit_ty (r := false) (by decide +kernel), _, rfl, iteF' rfl ?_⟩
    refine ⟨_, rfl, _, .ty "list", _, _, _, rfl, .ty _, .base (.lst hb), kit_ty (r := true) (by decide +kernel), _, rfl, iteT' rfl ?_⟩
    refine ⟨_, rfl, _, .ty "tuple", _, _, _, rfl, .ty _, .base (.lst ha), kit_ty (r := false) (by decide +kernel), _, rfl, _, .ty "tuple", _, _, _, rfl, .ty _, .base (.lst hb), kit_ty (r := false) (by decide +kernel), rfl, ?_⟩
    refine ⟨_, by rw [decide_eq_true rfl], ?_⟩
    refine iteF' rfl ?_
    refine ⟨_, rfl, _, .ty "list", _, _, _, rfl, .ty _, (.base (.lst ha)), kit_ty (r := true) (by decide +kernel), _, rfl, _, .ty "list", _, _, _, rfl, .ty _, (.base (.lst hb)), kit_ty (r := true) (by decide +kernel), rfl, ?_⟩
    refine ⟨_, by rw [decide_eq_true rfl], ?_⟩
    refine iteF' rfl ?_
    refine ⟨_, rfl, a, xs, rfl, (.inl (SqL.of ha)), _, rfl, b, ys, rfl, (.inl (SqL.of hb)), rfl, ?_⟩
    refine ⟨_, by rw [lxy, decide_eq_true rfl], ?_⟩
    refine iteF' rfl ?_
    refine ⟨_, rfl, b, ys, rfl, (.inl (SqL.of hb)), _, rfl, by omega, by omega, ?_⟩
    refine for_range (lo := 0) (n := ys.length) (fun i σ G => (∃ k : Option V, σ = [some (V.ref a), some (V.ref b), k]) ∧ G = H) ⟨⟨_, rfl⟩, rfl⟩ ?_ ?_
    · rintro i σ G hi ⟨⟨k, rfl⟩, rfl⟩
      obtain ⟨v, d, e1, e2, dv⟩ := dps_get hxs (i := i) (by omega)
      obtain ⟨u, d', e3, e4, du⟩ := dps_get hys (i := i) (by omega)
      have dd : d' = d := by rw [e2] at e4; exact (Option.some.inj e4).symm
      subst dd
      have ei : (0 : Int) + (i : Int) = ((i : Nat) : Int) := by omega
      have a1 : atI xs (0 + (i : Int)) = some v := by rw [ei]; exact atI_nat e1
      have a2 : atI ys (0 + (i : Int)) = some u := by rw [ei]; exact atI_nat e3
      refine ⟨_, rfl, _, rfl, (.inl ⟨a, xs, _, v, rfl, rfl, (SqL.of ha), a1, _, rfl, _, rfl, (.inl ⟨b, ys, _, u, rfl, rfl, (SqL.of hb), a2, ?_⟩)⟩)⟩
      refine ⟨m, rfl, v, u, rfl, .inl ⟨d', hl _ (List.mem_of_getElem? e2), dv, du⟩, ?_⟩
      refine ⟨_, rfl, ?_⟩
      refine iteF' rfl ?_
      exact ⟨⟨_, rfl⟩, rfl⟩
    · rintro σ G ⟨⟨k, rfl⟩, rfl⟩
      exact q
theorem ok_sames (F : Fn K mg "_law_same" s_law_same) (T : BlD mg) : ∀ n, Cal P w K mg base "_law_same" (n + 1) ["found", "due"] (spSameD K n)
  | 0 => same_step F T ((cal_no (P := P) (w := w) (base := base) F (ps := ["found", "due"]) (fun _ _ _ _ _ _ us hl => match us, hl with | [_, _], _ => rfl) ).imp (fun _ _ _ _ ⟨m, e, _⟩ => absurd e (Nat.succ_ne_zero m).symm))
  | n + 1 => same_step F T ((ok_sames F T n).imp (fun vs H Q E ⟨m, e, h⟩ => by have e' : n = m := by omega
                                                                               rw [e']; exact h))
end

end G0
namespace G0
open PySem PySem.Spec PyProof.Rows L2
/-! ### stamps -/
def StN (n : List Int) : Prop := n.length = 3 ∧ TS.Bd (10 ^ 41) n
def stD (n : List Int) : PyData := .tuple (n.map PyData.int)
inductive Sts (K : PySem.W.Frag) (H : Hp) : List V → List (List Int) → Prop
  | nil : Sts K H [] []
  | cons {x : V} {xs : List V} {n : List Int} {L : List (List Int)} : TupI K H x n → StN n → Sts K H xs L → Sts K H (x :: xs) (n :: L)
section
variable {K : PySem.W.Frag} {H H' : Hp}
theorem Sts.imp (c : ∀ a xs, SqT K H a xs → SqT K H' a xs) : ∀ {xs : List V} {L : List (List Int)}, Sts K H xs L → Sts K H' xs L
  | [], [], _ => .nil
  | _ :: _, _ :: _, .cons ⟨t, e, h⟩ s r => .cons ⟨t, e, c _ _ h⟩ s (Sts.imp c r)
theorem Sts.len : ∀ {xs : List V} {L : List (List Int)}, Sts K H xs L → xs.length = L.length
  | [], [], _ => rfl
  | _ :: _, _ :: _, .cons _ _ r => congrArg (· + 1) r.len
theorem Sts.app : ∀ {xs ys : List V} {L M : List (List Int)}, Sts K H xs L → Sts K H ys M → Sts K H (xs ++ ys) (L ++ M)
  | [], _, [], _, _, h => h
  | _ :: _, _, _ :: _, _, .cons a b r, h => .cons a b (r.app h)
theorem Sts.one {x : V} {n : List Int} (h : TupI K H x n) (s : StN n) : Sts K H [x] [n] := .cons h s .nil
theorem Sts.perm {xs ys : List V} (p : ys.Perm xs) : ∀ {L : List (List Int)}, Sts K H xs L → ∃ M, Sts K H ys M ∧ M.Perm L := by
  induction p with
  | nil => intro L h; cases h; exact ⟨[], .nil, List.Perm.refl _⟩
  | cons x _ ih =>
    intro L h
    cases h with
    | cons a b r =>
      obtain ⟨M, hm, hp⟩ := ih r
      exact ⟨_ :: M, .cons a b hm, hp.cons _⟩
  | swap x y l =>
    intro L h
    cases h with
    | cons a b r =>
      cases r with
      | cons a' b' r' => exact ⟨_, .cons a' b' (.cons a b r'), List.Perm.swap _ _ _⟩
  | trans _ _ ih1 ih2 =>
    intro L h
    obtain ⟨M, hm, hp⟩ := ih2 h
    obtain ⟨M', hm', hp'⟩ := ih1 hm
    exact ⟨M', hm', hp'.trans hp⟩
theorem Sts.tup : ∀ {xs : List V} {L : List (List Int)}, Sts K H xs L → ∀ x ∈ xs, ∃ n, n ∈ L ∧ TupI K H x n ∧ StN n
  | [], [], _, x, hx => absurd hx List.not_mem_nil
  | _ :: _, _ :: _, .cons a b r, x, hx => by
    rcases List.mem_cons.mp hx with rfl | h
    · exact ⟨_, List.mem_cons_self .., a, b⟩
    · obtain ⟨n, m, z⟩ := r.tup x h
      exact ⟨n, List.mem_cons_of_mem _ m, z⟩
theorem Sts.mem : ∀ {xs : List V} {L : List (List Int)}, Sts K H xs L → ∀ n ∈ L, ∃ x, x ∈ xs ∧ TupI K H x n ∧ StN n
  | [], [], _, n, hn => absurd hn List.not_mem_nil
  | _ :: _, _ :: _, .cons a b r, n, hn => by
    rcases List.mem_cons.mp hn with rfl | h
    · exact ⟨_, List.mem_cons_self .., a, b⟩
    · obtain ⟨x, m, z⟩ := r.mem n h
      exact ⟨x, List.mem_cons_of_mem _ m, z⟩
theorem Sts.st {xs : List V} {L : List (List Int)} (h : Sts K H xs L) : ∀ n ∈ L, StN n := fun n hn => let ⟨_, _, _, z⟩ := h.mem n hn; z
theorem Sts.up : ∀ {xs : List V} {L : List (List Int)}, Sts K H xs L → xs.Pairwise (fun x y => ∀ n m, TupI K H x n → TupI K H y m → TS.code (10 ^ 41) n ≤ TS.code (10 ^ 41) m) →
    L.Pairwise fun n m => TS.code (10 ^ 41) n ≤ TS.code (10 ^ 41) m
  | [], [], _, _ => .nil
  | _ :: _, _ :: _, .cons a b r, h => by
    rw [List.pairwise_cons] at h ⊢
    exact ⟨fun m hm => by
      obtain ⟨y, hy, ty, _⟩ := r.mem m hm
      exact h.1 y hy _ _ a ty, r.up h.2⟩
theorem dp_stamp {x : V} {n : List Int} (h : TupI K H x n) : Dp K H x (stD n) := by
  obtain ⟨t, rfl, h⟩ := h
  exact .tup h (dps_ints n)
theorem Sts.dps : ∀ {xs : List V} {L : List (List Int)}, Sts K H xs L → DpAll K H xs (L.map stD)
  | [], [], _ => .nil
  | _ :: _, _ :: _, .cons a _ r => .cons (dp_stamp a) r.dps
end
theorem code_inj {B : Int} : ∀ {n m : List Int}, n.length = m.length → TS.Bd B n → TS.Bd B m → TS.code B n = TS.code B m → n = m
  | [], [], _, _, _, _ => rfl
  | d :: r, e :: q, hl, hn, hm, h => by
    have hl' : r.length = q.length := by simpa using hl
    rcases Int.lt_trichotomy d e with c | c | c
    · have := TS.code_lt hl' hn.tail hm.tail c; omega
    · subst c
      have e2 : TS.code B r = TS.code B q := by
        have h' : d * B ^ r.length + TS.code B r = d * B ^ q.length + TS.code B q := h
        rw [hl'] at h'
        omega
      rw [code_inj hl' hn.tail hm.tail e2]
    · have := TS.code_lt hl'.symm hm.tail hn.tail c; omega
theorem same_sorted {L M : List (List Int)} (p : L.Perm M) (hL : ∀ n ∈ L, StN n) (a : L.Pairwise fun n m => TS.code (10 ^ 41) n ≤ TS.code (10 ^ 41) m)
    (b : M.Pairwise fun n m => TS.code (10 ^ 41) n ≤ TS.code (10 ^ 41) m) : L = M :=
  List.Perm.eq_of_pairwise (fun n m hn hm h1 h2 => by
    have sn := hL n hn
    have sm := hL m (p.mem_iff.mpr hm)
    exact code_inj (sn.1.trans sm.1.symm) sn.2 sm.2 (Int.le_antisymm h1 h2)) a b p
theorem eqv_ints : ∀ n : List Int, PyData.eqvAll (n.map PyData.int) (n.map PyData.int) = true
  | [] => by simp [PyData.eqvAll]
  | i :: r => by simp [PyData.eqvAll, PyData.eqv, eqv_ints r]
theorem eqv_st (n : List Int) : PyData.eqv (stD n) (stD n) = true := by simp [stD, PyData.eqv, eqv_ints n]
theorem eqv_sts : ∀ L : List (List Int), PyData.eqvAll (L.map stD) (L.map stD) = true
  | [] => by simp [PyData.eqvAll]
  | n :: L => by simp [PyData.eqvAll, eqv_st n, eqv_sts L]
theorem eqv_tups (L : List (List Int)) : PyData.eqv (.tuple (L.map stD)) (.tuple (L.map stD)) = true := by simp [PyData.eqv, eqv_sts L]
theorem lay_sts : ∀ L : List (List Int), PyData.canLayAll0 (L.map stD) = true
  | [] => by simp [PyData.canLayAll0]
  | n :: L => by simp [PyData.canLayAll0, PyData.canLay0, stD, lay_ints n, lay_sts L]
theorem deep_sts : ∀ L : List (List Int), PyData.depthAll (L.map stD) ≤ 1
  | [] => by simp [PyData.depthAll]
  | n :: L => by
    have := deep_sts L
    simp [PyData.depthAll, PyData.depth, stD, deep_ints n]
    omega
theorem shaped_st (n : List Int) : SeqAt.shaped (stD n) = true := by
  show ((stD n).canLay0 && decide ((stD n).depth ≤ 64)) = true
  simp [stD, PyData.canLay0, PyData.depth, lay_ints, deep_ints]
theorem shaped_tups (L : List (List Int)) : SeqAt.shaped (.tuple (L.map stD)) = true := by
  show ((PyData.tuple (L.map stD)).canLay0 && decide ((PyData.tuple (L.map stD)).depth ≤ 64)) = true
  have := deep_sts L
  simp [PyData.canLay0, PyData.depth, lay_sts]
  omega
theorem shaped_lsts (L : List (List Int)) : SeqAt.shaped (.list (L.map stD)) = true := by
  show ((PyData.list (L.map stD)).canLay0 && decide ((PyData.list (L.map stD)).depth ≤ 64)) = true
  have := deep_sts L
  simp [PyData.canLay0, PyData.depth, lay_sts]
  omega
theorem lv_st {n : List Int} {k : Nat} (h : n.length < 10000) : Lv (k + 1) (stD n) := .tup (by rw [List.length_map]; exact h) fun d hd => by
  obtain ⟨i, _, rfl⟩ := List.mem_map.mp hd
  exact .int i

end G0
namespace G0
open PySem PySem.Spec PyProof.Rows L2
section
variable {P : Program} {w : World} {K : PySem.W.Frag} {mg : Str → Option Value} {base : Heap}
/-! ### _law_stamp -/
def spStamp (K : PySem.W.Frag) : Sp := fun vs H Q _ => ∃ c : Int, vs = [.int c] ∧ Builtin.Int.intBits c ≤ 1048576 ∧
  ∀ (t : Addr) (H' : Hp) (n : List Int), H t = none → Same H H' → H' t = some (.tup (n.map V.int)) → StN n → Q (.ref t) H'
theorem st3 {a b c : Int} (a0 : 0 ≤ a) (a1 : a < 10 ^ 41) (b0 : 0 ≤ b) (b1 : b < 10 ^ 41) (c0 : 0 ≤ c) (c1 : c < 10 ^ 41) : StN [a, b, c] := by
  refine ⟨rfl, fun m hm => ?_⟩
  simp only [List.mem_cons, List.not_mem_nil, or_false] at hm
  rcases hm with rfl | rfl | rfl <;> constructor <;> assumption
theorem five {ds : List Int} (h : ds.length = 5) : ∃ a b c d e, ds = [a, b, c, d, e] :=
  match ds, h with
  | [a, b, c, d, e], _ => ⟨a, b, c, d, e, rfl⟩
theorem sc_law_stamp : FnScope ["cell", "way", "low", "many", "seat", "turn"] ["cell"] (defScope s_law_stamp) :=
  ⟨rfl, rfl, rfl, by decide +kernel, rfl, by decide +kernel, by decide +kernel⟩
theorem ok_stamp (F : Fn K mg "_law_stamp" s_law_stamp) (C_draws : Cal P w K mg base "_law_draws" 1 ["cell", "tops"] spDraws) :
    Cal P w K mg base "_law_stamp" 2 ["cell"] (spStamp K) := by
  refine cal_of F sc_law_stamp
    (fun _ _ _ _ _ _ us hl => match us, hl with | [_], _ => rfl) ?_ ?_
  · rintro vs H Q E ⟨c, rfl, _⟩
    rfl
  rintro f cdv A outer s H vs Q E free hr ⟨c, rfl, hc, q⟩
  refine ⟨_, (pss_cons (ps_asg (pe_cal C_draws free (hr.mono (by decide)) (pa_cons (pv 0) (pa_cons (pe_lst (pa_cons pe_int (pa_cons pe_int (pa_cons (pe_op op_pow pe_int pe_int) (pa_cons pe_int (pa_cons (pe_op op_pow pe_int pe_int) pa_nil)))))) pa_nil))) (pg_unl (by rfl) (pgs_cons (pg_name (i := 1) sc_law_stamp.nd rfl (Or.inl rfl)) (pgs_cons (pg_name (i := 2) sc_law_stamp.nd rfl (Or.inl rfl)) (pgs_cons (pg_name (i := 3) sc_law_stamp.nd rfl (Or.inl rfl)) (pgs_cons (pg_name (i := 4) sc_law_stamp.nd rfl (Or.inl rfl)) (pgs_cons (pg_name (i := 5) sc_law_stamp.nd rfl (Or.inl rfl)) pgs_nil)))))))
    (pss_cons (ps_if (pt_cmpR op_lt (pv 1) pe_int (nomark _))
    (pss_one (ps_ret (pe_tup (pa_cons (pv 2) (pa_cons (pe_op op_mod (pv 4) pe_int) (pa_cons (pe_op op_mod (pv 5) pe_int) pa_nil))))))
    pss_nil)
    (pss_cons (ps_if (pt_cmpR op_eq (pv 1) pe_int (nomark _))
    (pss_one (ps_ret (pe_tup (pa_cons (pe_op op_add (pe_op op_pow pe_int pe_int) (pv 2)) (pa_cons (pv 4) (pa_cons (pe_op op_mod (pv 5) pe_int) pa_nil))))))
    pss_nil)
    (pss_one (ps_ret (pe_tup (pa_cons (pv 3) (pa_cons (pv 4) (pa_cons (pv 5) pa_nil))))))))), ?_⟩
  refine ⟨_, rfl, _, _, rfl, rfl, ⟨by decide, by decide, by decide⟩, _, _, rfl, rfl, ⟨by decide, by decide, by decide⟩, by show 5 ≤ sizeLine; decide, fun T hT => ?_⟩
  refine ⟨T, c, [6, 3, (10 : Int) ^ Int.toNat 40, 60, (10 : Int) ^ Int.toNat 9], rfl, upd_same, hc, by decide +kernel, by decide, fun l ds hl e hb => ?_⟩
  obtain ⟨d0, d1, d2, d3, d4, rfl⟩ := five e
  obtain ⟨_, e0, a0, b0⟩ := hb 0 d0 rfl
  obtain ⟨_, e1, a1, b1⟩ := hb 1 d1 rfl
  obtain ⟨_, e2, a2, b2⟩ := hb 2 d2 rfl
  obtain ⟨_, e3, a3, b3⟩ := hb 3 d3 rfl
  obtain ⟨_, e4, a4, b4⟩ := hb 4 d4 rfl
  cases e0; cases e1; cases e2; cases e3; cases e4
  have p39 : (10 : Int) ^ Int.toNat 39 = 1000000000000000000000000000000000000000 := by decide
  have p40 : (10 : Int) ^ Int.toNat 40 = 10000000000000000000000000000000000000000 := by decide
  have p41 : (10 : Int) ^ 41 = 100000000000000000000000000000000000000000 := by decide
  have p9 : (10 : Int) ^ Int.toNat 9 = 1000000000 := by decide
  rw [p40] at b2
  rw [p9] at b4
  refine ⟨l, _, rfl, SqL.of upd_same, rfl, _, _, rfl, _, _, rfl, _, _, rfl, _, _, rfl, _, _, rfl, rfl, ?_⟩
  refine ⟨_, rfl, _, _, rfl, rfl, _, rfl, ?_⟩
  refine ite2 (fun c1 => ?_) (fun c1 => ?_)
  · refine ⟨_, rfl, _, rfl, _, _, rfl, rfl, (by show (0 : Int) < 4; decide), _, rfl, _, _, rfl, rfl, (by show (0 : Int) < 2; decide), ?_⟩
    refine ⟨by show 3 ≤ sizeLine; decide, fun t ht => ?_⟩
    have l2 := hl
    refine q t _ [d1, d3 % 4, d4 % 2] ?_ (((same_upd hT).trans (same_upd hl)).trans (same_upd ht)) upd_same ?_
    · by_cases z : t = T
      · rw [z]; exact hT
      · by_cases z2 : t = l
        · rw [z2, upd_same] at ht; cases ht
        · rw [upd_ne z2, upd_ne z] at ht; exact ht
    · refine st3 ?_ ?_ ?_ ?_ ?_ ?_ <;> (try rw [p39]) <;> (try rw [p41]) <;> omega
  · refine ⟨_, rfl, rfl, _, rfl, ?_⟩
    refine ite2 (fun c2 => ?_) (fun c2 => ?_)
    · refine ⟨_, _, rfl, rfl, ⟨by decide, by decide, by decide⟩, _, rfl, _, _, rfl, rfl, _, rfl, _, rfl, _, _, rfl, rfl, (by show (0 : Int) < 3; decide), ?_⟩
      refine ⟨by show 3 ≤ sizeLine; decide, fun t ht => ?_⟩
      have l2 := hl
      refine q t _ [(10 ^ Int.toNat 39) + d1, d3, d4 % 3] ?_ (((same_upd hT).trans (same_upd hl)).trans (same_upd ht)) upd_same ?_
      · by_cases z : t = T
        · rw [z]; exact hT
        · by_cases z2 : t = l
          · rw [z2, upd_same] at ht; cases ht
          · rw [upd_ne z2, upd_ne z] at ht; exact ht
      · refine st3 ?_ ?_ ?_ ?_ ?_ ?_ <;> (try rw [p39]) <;> (try rw [p41]) <;> omega
    · refine ⟨_, rfl, _, rfl, _, rfl, ?_⟩
      refine ⟨by show 3 ≤ sizeLine; decide, fun t ht => ?_⟩
      have l2 := hl
      refine q t _ [d2, d3, d4] ?_ (((same_upd hT).trans (same_upd hl)).trans (same_upd ht)) upd_same ?_
      · by_cases z : t = T
        · rw [z]; exact hT
        · by_cases z2 : t = l
          · rw [z2, upd_same] at ht; cases ht
          · rw [upd_ne z2, upd_ne z] at ht; exact ht
      · refine st3 ?_ ?_ ?_ ?_ ?_ ?_ <;> (try rw [p39]) <;> (try rw [p41]) <;> omega
end

end G0
namespace G0
open PySem PySem.Spec PyProof.Rows L2
/-! ### Desk -/
def deskF (h q : V) (b : Bool) : List (Str × V) := [("holder", h), ("queue", q), ("called", .bl b)]
theorem n_qh : ¬ (("queue" : Str) = "holder") := by decide +kernel
theorem n_ch : ¬ (("called" : Str) = "holder") := by decide +kernel
theorem n_cq : ¬ (("called" : Str) = "queue") := by decide +kernel
theorem deskF_holder (h q : V) (b : Bool) : (deskF h q b).lookup ("holder" : Str) = some h := by unfold deskF; rw [List.lookup_cons_self]
theorem deskF_queue (h q : V) (b : Bool) : (deskF h q b).lookup ("queue" : Str) = some q := by
  unfold deskF; rw [List.lookup_cons, beq_false_of_ne n_qh]; simp only []; rw [List.lookup_cons_self]
theorem deskF_called (h q : V) (b : Bool) : (deskF h q b).lookup ("called" : Str) = some (.bl b) := by
  unfold deskF; rw [List.lookup_cons, beq_false_of_ne n_ch]; simp only []; rw [List.lookup_cons, beq_false_of_ne n_cq]; simp only []; rw [List.lookup_cons_self]
theorem deskF_no (h q : V) (b : Bool) {x : Str} (h1 : x ≠ ("holder" : Str)) (h2 : x ≠ ("queue" : Str)) (h3 : x ≠ ("called" : Str)) : (deskF h q b).lookup x = none := by
  unfold deskF
  rw [List.lookup_cons, beq_false_of_ne h1]; simp only []
  rw [List.lookup_cons, beq_false_of_ne h2]; simp only []
  rw [List.lookup_cons, beq_false_of_ne h3]; rfl
theorem deskF_putH (h q u : V) (b : Bool) : putF "holder" u (deskF h q b) = deskF u q b := by
  unfold deskF
  show (if ("holder" : Str) = "holder" then _ else _) = _
  rw [if_pos rfl]
theorem deskF_putQ (h q u : V) (b : Bool) : putF "queue" u (deskF h q b) = deskF h u b := by
  unfold deskF
  show (if ("holder" : Str) = "queue" then _ else (("holder" : Str), h) :: (if ("queue" : Str) = "queue" then _ else _)) = _
  rw [if_neg (fun z => n_qh z.symm), if_pos rfl]
theorem deskF_putC (h q : V) (b c : Bool) : putF "called" (.bl c) (deskF h q b) = deskF h q c := by
  unfold deskF
  show (if ("holder" : Str) = "called" then _ else (("holder" : Str), h) :: (if ("queue" : Str) = "called" then _ else (("queue" : Str), q) :: (if ("called" : Str) = "called" then _ else _))) = _
  rw [if_neg (fun z => n_ch z.symm), if_neg (fun z => n_cq z.symm), if_pos rfl]
theorem deskF_made (q : V) : putF "called" (.bl false) (putF "queue" q (putF "holder" .non [])) = deskF .non q false := by
  show putF "called" (.bl false) (if ("holder" : Str) = "queue" then _ else (("holder" : Str), V.non) :: putF "queue" q []) = _
  rw [if_neg (fun z => n_qh z.symm)]
  show (if ("holder" : Str) = "called" then _ else (("holder" : Str), V.non) :: (if ("queue" : Str) = "called" then _ else (("queue" : Str), q) :: putF "called" (.bl false) [])) = _
  rw [if_neg (fun z => n_ch z.symm), if_neg (fun z => n_cq z.symm)]
  rfl
structure DeskT (K : PySem.W.Frag) (mg : Str → Option Value) (C : Addr) : Prop where
  cl : Cls K C
  nH : NoAttr K C "holder"
  nQ : NoAttr K C "queue"
  nC : NoAttr K C "called"
  mgC : mg "Desk" = some (.ref C)
section
variable {P : Program} {w : World} {K : PySem.W.Frag} {mg : Str → Option Value} {base : Heap} {C f : Addr} {fd : FuncData}
/-- what a tuple holds stays where an object alone changes -/
theorem sqt_chgI {H H' : Hp} {p D dx : Addr} {fs : List (Str × V)} (hp : H p = some (.ins D dx fs)) (c : Chg p H H') {a : Addr} {xs : List V} (h : SqT K H a xs) : SqT K H' a xs := by
  rcases h with (h | ⟨o, h⟩) | h
  · exact .inl (.inl (c _ _ (ne_of h hp (by intro z; cases z)) h))
  · exact .inl (.inr ⟨o, c _ _ (ne_of h hp (by intro z; cases z)) h⟩)
  · exact .inr h
/-- any slice of a tuple -/
theorem sl_anyk {H : Hp} {a : Addr} {xs : List V} {lo hi : Option Int} {Q : VK} (h : SqT K H a xs) (q : ∀ r H', Same H H' → SqT K H' r (cutV xs lo hi) → Q (.ref r) H') : rSlA K (.ref a) lo hi H Q := by
  refine ⟨a, xs, rfl, h, fun ⟨e1, e2⟩ => ?_, fun _ r hr => q r _ (same_upd hr) (SqT.of upd_same)⟩
  refine q a H (Same.refl H) ?_
  unfold cutV
  rw [e1, e2, List.drop_zero, Nat.sub_zero, List.take_length]
  exact h
theorem sl_nonek {σ : L2.St} {H : Hp} {a : Addr} {xs : List V} {lo : Option Int} {Q : VK} (h : SqT K H a xs) (q : ∀ r H', Same H H' → SqT K H' r (cutV xs lo none) → Q (.ref r) H') :
    tNoPart σ H fun u H3 => rSlA K (.ref a) lo u H3 Q := sl_anyk h q
/-- any two tuples together -/
theorem cat_anyk {H : Hp} {a b : Addr} {xs ys : List V} {Q : VK} (h1 : SqT K H a xs) (h2 : SqT K H b ys) (l : xs.length + ys.length ≤ 10000)
    (q : ∀ r H', Same H H' → SqT K H' r (xs ++ ys) → Q (.ref r) H') : rCatA K (.ref a) (.ref b) H Q := by
  refine ⟨a, b, xs, ys, rfl, rfl, h1, h2, Nat.le_trans l (by decide), fun e => ?_, fun _ e => ?_, fun _ _ r hr => q r _ (same_upd hr) (SqT.of upd_same)⟩
  · subst e
    exact q b H (Same.refl H) h2
  · subst e
    exact q a H (Same.refl H) (by rw [List.append_nil]; exact h1)
theorem cut1 (x : V) (r : List V) : cutV (x :: r) (some 1) none = r := by
  unfold cutV HT.sIx
  simp
def spDInit (C : Addr) : Sp := fun vs H Q _ => ∃ (p dx : Addr), vs = [.ref p] ∧ H p = some (.ins C dx []) ∧
  ∀ q H', H q = none → H' q = some (.tup []) → H' p = some (.ins C dx (deskF .non (.ref q) false)) → Chg p H H' → Q .non H'
theorem sc_Desk__init : FnScope ["self"] ["self"] (defScope s_Desk__init) :=
  ⟨rfl, rfl, rfl, by decide +kernel, rfl, by decide +kernel, by decide +kernel⟩
theorem ok_dinit (F : Fun K "__init__" "Desk.__init__" s_Desk__init f fd) (S : DeskT K mg C) : FnOk P w K mg base CX0 1 f fd ["self"] (spDInit C) := by
  refine F.ok sc_Desk__init (fun vs H Q E h => ?_) (fun cdv A outer s H vs Q E hr h => ?_)
  · obtain ⟨p, dx, rfl, _⟩ := h
    rfl
  obtain ⟨p, dx, rfl, hp, q⟩ := h
  refine ⟨_, (pss_cons (ps_fld (pv 0) pe_non rfl)
    (pss_cons (ps_fld (pv 0) (pe_tup pa_nil) rfl)
    (pss_one (ps_fld (pv 0) pe_bl rfl)))), ?_⟩
  refine ⟨_, rfl, p, C, dx, _, rfl, hp, S.cl, S.nH, (by show 0 < 1000; decide), ?_⟩
  refine ⟨Nat.zero_le _, fun e he => ?_⟩
  have pe : p ≠ e := by intro z; rw [z, upd_same] at he; cases he
  have he0 : H e = none := by rw [upd_ne pe.symm] at he; exact he
  refine ⟨_, rfl, p, C, dx, _, rfl, by rw [upd_ne pe, upd_same], S.cl, S.nQ, (by show 1 < 1000; decide), ?_⟩
  refine ⟨_, rfl, p, C, dx, _, rfl, upd_same, S.cl, S.nC, (by show 2 < 1000; decide), ?_⟩
  rw [deskF_made]
  refine q e _ he0 ?_ upd_same ?_
  · rw [upd_ne pe.symm, upd_ne pe.symm, upd_same]
  · intro b o n h
    rw [upd_ne n, upd_ne n, upd_ne (ne_of_none h he0), upd_ne n]
    exact h
def spDLen (C : Addr) : Sp := fun vs H Q _ => ∃ (p dx q : Addr) (h : V) (b : Bool) (xs : List V), vs = [.ref p] ∧ H p = some (.ins C dx (deskF h (.ref q) b)) ∧ SqT K H q xs ∧ Q (.int xs.length) H
theorem sc_Desk__len : FnScope ["self"] ["self"] (defScope s_Desk__len) :=
  ⟨rfl, rfl, rfl, by decide +kernel, rfl, by decide +kernel, by decide +kernel⟩
theorem ok_dlen (F : Fun K "__len__" "Desk.__len__" s_Desk__len f fd) (T : BlD mg) (S : DeskT K mg C) : FnOk P w K mg base CX0 1 f fd ["self"] (spDLen (K := K) C) := by
  refine F.ok sc_Desk__len (fun vs H Q E h => ?_) (fun cdv A outer s H vs Q E hr h => ?_)
  · obtain ⟨p, dx, q, h, b, xs, rfl, _⟩ := h
    rfl
  obtain ⟨p, dx, qa, h, b, xs, rfl, hp, hq, q⟩ := h
  refine ⟨_, (pss_one (ps_ret (pe_callB call_len_seq (by rfl) T.len (by decide +kernel) (pa_cons (pe_fld (pv 0) (by rfl)) pa_nil)))), ?_⟩
  exact ⟨_, rfl, p, C, dx, _, _, rfl, hp, S.cl, S.nQ, deskF_queue _ _ _, qa, xs, rfl, .inr hq, q⟩
/-- the free vote -/
def spGive (K : PySem.W.Frag) (C : Addr) : Sp := fun vs H Q _ => ∃ (p dx qa : Addr) (h : V) (b : Bool) (xs : List V), vs = [.ref p] ∧ H p = some (.ins C dx (deskF h (.ref qa) b)) ∧ SqT K H qa xs ∧
  ((((∃ a, h = .ref a) ∨ (h = .non ∧ xs = [])) ∧ ∀ l, H l = none → Q (.ref l) (upd H l (.lst []))) ∨
    (h = .non ∧ ∃ x r, xs = x :: r ∧ xs.length < 10000 ∧ ∀ l t q' H', H l = none → H' l = some (.lst [.ref t]) → H' t = some (.tup [.str "vote", x]) → SqT K H' q' r → H' p = some (.ins C dx (deskF x (.ref q') false)) →
      Chg p H H' → Q (.ref l) H'))
theorem sc_Desk_give_the_free_vote : FnScope ["self"] ["self"] (defScope s_Desk_give_the_free_vote) :=
  ⟨rfl, rfl, rfl, by decide +kernel, rfl, by decide +kernel, by decide +kernel⟩
theorem ok_give (F : Fun K "_give_the_free_vote" "Desk._give_the_free_vote" s_Desk_give_the_free_vote f fd) (T : BlD mg) (S : DeskT K mg C) : FnOk P w K mg base CX0 1 f fd ["self"] (spGive K C) := by
  refine F.ok sc_Desk_give_the_free_vote (fun vs H Q E h => ?_) (fun cdv A outer s H vs Q E hr h => ?_)
  · obtain ⟨p, dx, qa, h, b, xs, rfl, _⟩ := h
    rfl
  obtain ⟨p, dx, qa, h, b, xs, rfl, hp, hq, two⟩ := h
  refine ⟨_, (pss_cons (ps_if (PW.pt (pw_or (pt_cmpR op_notN (pe_fld (pv 0) (by rfl)) pe_non (nomark _)) (pw_or1 (pt_cmpR op_eq (pe_callB call_len_seq (by rfl) T.len (by decide +kernel) (pa_cons (pe_fld (pv 0) (by rfl)) pa_nil)) pe_int (nomark _)))))
    (pss_one (ps_ret (pe_lst pa_nil)))
    pss_nil)
    (pss_cons (ps_fld (pv 0) (pe_ix ix_tup (pe_fld (pv 0) (by rfl)) pe_int (fun _ _ => rfl)) rfl)
    (pss_cons (ps_fld (pv 0) (pe_slice sl_tupA (pe_fld (pv 0) (by rfl)) (po_some pe_int) po_none) rfl)
    (pss_cons (ps_fld (pv 0) pe_bl rfl)
    (pss_one (ps_ret (pe_lst (pa_cons (pe_tup (pa_cons pe_str (pa_cons (pe_fld (pv 0) (by rfl)) pa_nil))) pa_nil)))))))), ?_⟩
  refine ⟨_, rfl, p, C, dx, _, _, rfl, hp, S.cl, S.nH, deskF_holder _ _ _, ?_⟩
  rcases two with ⟨hh, q⟩ | ⟨rfl, x, r, rfl, sm, q⟩
  · rcases hh with ⟨a, rfl⟩ | ⟨rfl, rfl⟩
    · refine ⟨rfl, _, rfl, iteT' (by simp) ?_⟩
      refine iteT ?_
      exact ⟨Nat.zero_le _, q⟩
    · refine ⟨rfl, _, rfl, iteF' (by simp) ?_⟩
      refine ⟨_, rfl, p, C, dx, _, _, rfl, hp, S.cl, S.nQ, deskF_queue _ _ _, qa, [], rfl, .inr hq, rfl, _, rfl, ?_⟩
      refine iteT' (by simp) ?_
      exact ⟨Nat.zero_le _, q⟩
  · refine ⟨rfl, _, rfl, iteF' (by simp) ?_⟩
    refine ⟨_, rfl, p, C, dx, _, _, rfl, hp, S.cl, S.nQ, deskF_queue _ _ _, qa, _, rfl, .inr hq, rfl, _, rfl, ?_⟩
    refine iteF' (by simp; omega) ?_
    refine ⟨_, rfl, p, C, dx, _, _, rfl, hp, S.cl, S.nQ, deskF_queue _ _ _, qa, _, _, _, rfl, rfl, hq, (show atI (x :: r) ((0 : Nat) : Int) = some x from atI_nat rfl), _, rfl, p, C, dx, _, rfl, hp, S.cl, S.nH, (by show 3 < 1000; decide), ?_⟩
    rw [deskF_putH]
    have c1 : Chg p H (upd H p (.ins C dx (deskF x (.ref qa) b))) := Chg.self
    have hq1 := sqt_chgI hp c1 hq
    refine ⟨_, rfl, p, C, dx, _, _, rfl, upd_same, S.cl, S.nQ, deskF_queue _ _ _, _, rfl, sl_nonek hq1 fun q' G s2 hq2 => ?_⟩
    rw [cut1] at hq2
    have hp2 := s2 _ _ (upd_same (H := H) (a := p))
    refine ⟨_, rfl, p, C, dx, _, rfl, hp2, S.cl, S.nQ, (by show 3 < 1000; decide), ?_⟩
    rw [deskF_putQ]
    refine ⟨_, rfl, p, C, dx, _, rfl, upd_same, S.cl, S.nC, (by show 3 < 1000; decide), ?_⟩
    rw [deskF_putC, upd_upd]
    refine ⟨_, rfl, p, C, dx, _, _, rfl, upd_same, S.cl, S.nH, deskF_holder _ _ _, by show 2 ≤ sizeLine; decide, ?_⟩
    intro t ht
    refine ⟨by show 1 ≤ sizeLine; decide, ?_⟩
    intro l hl
    have hp3 : upd G p (.ins C dx (deskF x (.ref q') false)) p = some (.ins C dx (deskF x (.ref q') false)) := upd_same
    have cG : Chg p H (upd G p (.ins C dx (deskF x (.ref q') false))) := fun b o n e => by rw [upd_ne n]; exact s2 _ _ (c1 _ _ n e)
    have hq3 := sqt_chgI hp2 (Chg.self (o := .ins C dx (deskF x (.ref q') false))) hq2
    have cT := cG.new (o := .tup [.str "vote", x]) ht
    have pl : l ≠ p := by intro z; rw [z, (same_upd ht) _ _ hp3] at hl; cases hl
    refine q l t q' _ (cT.back hl pl) upd_same ((same_upd hl) _ _ upd_same) (sqt_same ((same_upd ht).trans (same_upd hl)) hq3) (((same_upd ht).trans (same_upd hl)) _ _ hp3) (cT.new hl)
end

end G0
namespace G0
open PySem PySem.Spec PyProof.Rows L2
section
variable {P : Program} {w : World} {K : PySem.W.Frag} {mg : Str → Option Value} {base : Heap} {C f : Addr} {fd : FuncData}
def Up (M : List (List Int)) : Prop := M.Pairwise fun n m => TS.code (10 ^ 41) n ≤ TS.code (10 ^ 41) m
/-- a method of the class at C -/
def Me (P : Program) (w : World) (K : PySem.W.Frag) (mg : Str → Option Value) (base : Heap) (C : Addr) (x : Str) (k : Nat) (ps : List Str) (sp : Sp) : Prop :=
  ∃ f fd, FnOk P w K mg base CX0 k f fd ps sp ∧ Binds K fd ps [] ∧ Meth K C x f
/-! ### take_ask -/
def spAsk (K : PySem.W.Frag) (C : Addr) : Sp := fun vs H Q _ => ∃ (p dx qa st : Addr) (h : V) (b : Bool) (xs : List V) (L : List (List Int)) (n : List Int), vs = [.ref p, .ref st] ∧
  H p = some (.ins C dx (deskF h (.ref qa) b)) ∧ SqT K H qa xs ∧ Sts K H xs L ∧ TupI K H (.ref st) n ∧ StN n ∧ L.length < 63 ∧
  ((∃ hh m, h = .ref hh ∧ TupI K H (.ref hh) m ∧ StN m ∧ ∀ l q' H' ys M, H l = none → SqT K H' q' ys → Sts K H' ys M → M.Perm (L ++ [n]) → Up M → Chg p H H' →
      (if (HT.lexLt n m && !b) = true then (∃ t, H' l = some (.lst [.ref t]) ∧ H' t = some (.tup [.str "back", .ref hh]) ∧ H' p = some (.ins C dx (deskF (.ref hh) (.ref q') true)))
        else (H' l = some (.lst []) ∧ H' p = some (.ins C dx (deskF (.ref hh) (.ref q') b)))) → Q (.ref l) H') ∨
    (h = .non ∧ xs = [] ∧ ∀ l t q' H', H l = none → H' l = some (.lst [.ref t]) → H' t = some (.tup [.str "vote", .ref st]) → SqT K H' q' [] → H' p = some (.ins C dx (deskF (.ref st) (.ref q') false)) →
      Chg p H H' → Q (.ref l) H'))
theorem sc_Desk_take_ask : FnScope ["self", "stamp"] ["self", "stamp"] (defScope s_Desk_take_ask) :=
  ⟨rfl, rfl, rfl, by decide +kernel, rfl, by decide +kernel, by decide +kernel⟩
theorem ok_ask (F : Fun K "take_ask" "Desk.take_ask" s_Desk_take_ask f fd) (T : BlD mg) (S : DeskT K mg C) (MV : Me P w K mg base C "_give_the_free_vote" 1 ["self"] (spGive K C)) :
    FnOk P w K mg base CX0 2 f fd ["self", "stamp"] (spAsk K C) := by
  obtain ⟨fV, fdV, GV, bV, mV⟩ := MV
  refine F.ok sc_Desk_take_ask (fun vs H Q E h => ?_) (fun cdv A outer s H vs Q E hr h => ?_)
  · obtain ⟨p, dx, qa, st, h, b, xs, L, n, rfl, _⟩ := h
    rfl
  obtain ⟨p, dx, qa, st, h, b, xs, L, n, rfl, hp, hq, hs, hn, sn, len, two⟩ := h
  refine ⟨_, (pss_cons (ps_fld (pv 0) (pe_callTy call_tuple_of (by rfl) T.tuple (by decide +kernel) (pa_cons (pe_callB (cr_sortTT (d := 3) (B := 10 ^ 41) (by decide)) (by rfl) T.sorted (by decide +kernel) (pa_cons (pe_op op_catA (pe_fld (pv 0) (by rfl)) (pe_tup (pa_cons (pv 1) pa_nil))) pa_nil)) pa_nil)) rfl)
    (pss_cons (ps_if (PW.pt (pw_and (pt_cmpR op_notN (pe_fld (pv 0) (by rfl)) pe_non (nomark _)) (pw_and (pt_cmpR (op_ltT (u0 hr)) (pv 1) (pe_fld (pv 0) (by rfl)) (nomark _)) (pw_and1 (pt_not (pt_val (pe_fld (pv 0) (by rfl))))))))
    (pss_cons (ps_fld (pv 0) pe_bl rfl)
    (pss_one (ps_ret (pe_lst (pa_cons (pe_tup (pa_cons pe_str (pa_cons (pe_fld (pv 0) (by rfl)) pa_nil))) pa_nil)))))
    pss_nil)
    (pss_one (ps_ret (pe_meth0 (pv 0) S.cl mV GV hr bV .nil pass0))))), ?_⟩
  refine ⟨_, rfl, p, C, dx, _, _, rfl, hp, S.cl, S.nQ, deskF_queue _ _ _, _, rfl, by show 1 ≤ sizeLine; decide, ?_⟩
  intro t1 ht1
  have lx := hs.len
  refine cat_anyk (sqt_same (same_upd ht1) hq) (SqT.of upd_same) (by simp; omega) fun r1 G1 s1 h1 => ?_
  have s01 : Same H G1 := (same_upd ht1).trans s1
  have hs1 : Sts K G1 (xs ++ [.ref st]) (L ++ [n]) := (hs.imp fun a ys z => sqt_same s01 z).app (Sts.one (by obtain ⟨t, e, z⟩ := hn; exact ⟨t, e, sqt_same s01 z⟩) sn)
  refine ⟨r1, _, rfl, h1, by simp; omega, fun x hx => ?_, fun ys o perm up ho => ?_⟩
  · obtain ⟨m, _, hm, sm⟩ := hs1.tup x hx
    exact ⟨m, hm, sm.1, sm.2⟩
  obtain ⟨M, hM, pM⟩ := hs1.perm perm
  have upM : Up M := hM.up up
  refine ⟨o, ys, rfl, .inl ⟨SqL.of upd_same, ?_⟩⟩
  intro q' hq'
  have s03 : Same H (upd (upd G1 o (.lst ys)) q' (.tup ys)) := (s01.trans (same_upd ho)).trans (same_upd hq')
  have hM3 : Sts K (upd (upd G1 o (.lst ys)) q' (.tup ys)) ys M := hM.imp fun a zs z => sqt_same ((same_upd ho).trans (same_upd hq')) z
  obtain ⟨G3, hG3⟩ : ∃ G3, G3 = upd (upd G1 o (.lst ys)) q' (.tup ys) := ⟨_, rfl⟩
  have q3 : SqT K G3 q' ys := by rw [hG3]; exact SqT.of upd_same
  rw [← hG3] at s03 hM3
  rw [← hG3]
  have hp3 := s03 _ _ hp
  refine ⟨_, rfl, p, C, dx, _, rfl, hp3, S.cl, S.nQ, (by show 3 < 1000; decide), ?_⟩
  rw [deskF_putQ]
  have cI : Chg p G3 (upd G3 p (.ins C dx (deskF h (.ref q') b))) := Chg.self
  have q4 := sqt_chgI hp3 cI q3
  have hM4 := hM3.imp fun a zs z => sqt_chgI hp3 cI z
  have c4 : Chg p H (upd G3 p (.ins C dx (deskF h (.ref q') b))) := fun z o n e => cI _ _ n (s03 _ _ e)
  have hp4 : upd G3 p (.ins C dx (deskF h (.ref q') b)) p = some (.ins C dx (deskF h (.ref q') b)) := upd_same
  obtain ⟨G4, hG4⟩ : ∃ G4, G4 = upd G3 p (.ins C dx (deskF h (.ref q') b)) := ⟨_, rfl⟩
  rw [← hG4] at q4 hM4 c4 hp4
  rw [← hG4]
  refine ⟨_, rfl, p, C, dx, _, _, rfl, hp4, S.cl, S.nH, deskF_holder _ _ _, ?_⟩
  rcases two with ⟨hh, m, rfl, hm, sm, q⟩ | ⟨rfl, rfl, q⟩
  · refine ⟨rfl, _, rfl, iteT' (by simp) ?_⟩
    obtain ⟨ta, e1, z1⟩ := hn
    obtain ⟨tb, e2, z2⟩ := hm
    cases e1; cases e2
    have z1' := sqt_chgI hp c4 z1
    have z2' := sqt_chgI hp c4 z2
    refine ⟨_, rfl, _, rfl, p, C, dx, _, _, rfl, hp4, S.cl, S.nH, deskF_holder _ _ _, _, _, n, m, rfl, rfl, z1', z2', _, rfl, ?_⟩
    obtain ⟨st', est⟩ : ∃ st', st' = hh := ⟨_, rfl⟩
    subst est
    cases hlt : HT.lexLt n m with
    | false =>
      refine iteF ?_
      refine ⟨_, rfl, p, dx, _, rfl, hp4, deskF_no _ _ _ (by decide +kernel) (by decide +kernel) (by decide +kernel), p, dx, q', .ref st', b, ys, rfl, hp4, q4, .inl ⟨.inl ⟨_, rfl⟩, fun l hl => ?_⟩⟩
      have pl : l ≠ p := by intro z; rw [z, hp4] at hl; cases hl
      refine q l q' _ ys M (c4.back hl pl) (sqt_same (same_upd hl) q4) (hM4.imp fun a zs z => sqt_same (same_upd hl) z) pM upM (c4.new hl) ?_
      rw [if_neg (by simp [hlt])]
      exact ⟨upd_same, same_upd hl _ _ hp4⟩
    | true =>
      refine iteT ?_
      refine ⟨_, rfl, p, C, dx, _, _, rfl, hp4, S.cl, S.nC, deskF_called _ _ _, _, rfl, ?_⟩
      cases b with
      | true =>
        refine iteF' rfl ?_
        refine ⟨_, rfl, p, dx, _, rfl, hp4, deskF_no _ _ _ (by decide +kernel) (by decide +kernel) (by decide +kernel), p, dx, q', .ref st', true, ys, rfl, hp4, q4, .inl ⟨.inl ⟨_, rfl⟩, fun l hl => ?_⟩⟩
        have pl : l ≠ p := by intro z; rw [z, hp4] at hl; cases hl
        refine q l q' _ ys M (c4.back hl pl) (sqt_same (same_upd hl) q4) (hM4.imp fun a zs z => sqt_same (same_upd hl) z) pM upM (c4.new hl) ?_
        rw [if_neg (by simp [hlt])]
        exact ⟨upd_same, same_upd hl _ _ hp4⟩
      | false =>
        refine iteT' rfl ?_
        refine ⟨_, rfl, p, C, dx, _, rfl, hp4, S.cl, S.nC, (by show 3 < 1000; decide), ?_⟩
        rw [deskF_putC]
        refine ⟨_, rfl, p, C, dx, _, _, rfl, upd_same, S.cl, S.nH, deskF_holder _ _ _, by show 2 ≤ sizeLine; decide, ?_⟩
        intro t ht
        refine ⟨by show 1 ≤ sizeLine; decide, ?_⟩
        intro l hl
        have cJ : Chg p G4 (upd G4 p (.ins C dx (deskF (.ref st') (.ref q') true))) := Chg.self
        have hp5 : upd G4 p (.ins C dx (deskF (.ref st') (.ref q') true)) p = some (.ins C dx (deskF (.ref st') (.ref q') true)) := upd_same
        have c5 := c4.trans cJ
        have s5 := (same_upd (o := .tup [.str "back", .ref st']) ht).trans (same_upd (o := .lst [.ref t]) hl)
        have pl : l ≠ p := by intro z; rw [z, (same_upd ht) _ _ hp5] at hl; cases hl
        refine q l q' _ ys M ((c5.new ht).back hl pl) (sqt_same s5 (sqt_chgI hp4 cJ q4)) (hM4.imp fun a zs z => sqt_same s5 (sqt_chgI hp4 cJ z)) pM upM ((c5.new ht).new hl) ?_
        rw [if_pos (by simp [hlt])]
        exact ⟨t, upd_same, same_upd hl _ _ upd_same, s5 _ _ hp5⟩
  · refine ⟨rfl, _, rfl, iteF' (by simp) ?_⟩
    have e0 : L = [] := List.eq_nil_of_length_eq_zero (by rw [← lx]; rfl)
    subst e0
    have ey : ys = [.ref st] := List.perm_singleton.mp perm
    subst ey
    refine ⟨_, rfl, p, dx, _, rfl, hp4, deskF_no _ _ _ (by decide +kernel) (by decide +kernel) (by decide +kernel), p, dx, q', .non, b, _, rfl, hp4, q4, .inr ⟨rfl, _, _, rfl, (by show 1 < 10000; decide), fun l t q2 H2 hl h1 h2 h3 h4 h5 => ?_⟩⟩
    have pl : l ≠ p := by intro z; rw [z, hp4] at hl; cases hl
    exact q l t q2 H2 (c4.back hl pl) h1 h2 h3 h4 (c4.trans h5)
end

end G0
namespace G0
open PySem PySem.Spec PyProof.Rows L2
section
variable {P : Program} {w : World} {K : PySem.W.Frag} {mg : Str → Option Value} {base : Heap} {C : Addr}
/-- the holder's stamp, or none -/
def HoldOk (K : PySem.W.Frag) (H : Hp) (h : V) : Prop := h = .non ∨ ∃ hh m, h = .ref hh ∧ TupI K H (.ref hh) m ∧ StN m
theorem HoldOk.imp {H H' : Hp} {h : V} (c : ∀ a xs, SqT K H a xs → SqT K H' a xs) (z : HoldOk K H h) : HoldOk K H' h := by
  rcases z with z | ⟨hh, m, e, ⟨t, e2, z⟩, sm⟩
  · exact .inl z
  · exact .inr ⟨hh, m, e, ⟨t, e2, c _ _ z⟩, sm⟩
theorem HoldOk.dp {H : Hp} {h : V} (z : HoldOk K H h) : ∃ d, (∀ k, Lv (k + 1) d) ∧ Dp K H h d := by
  rcases z with rfl | ⟨hh, m, rfl, z, sm⟩
  · exact ⟨.none, fun _ => .non, .non⟩
  · exact ⟨stD m, fun _ => lv_st (by rw [sm.1]; decide), dp_stamp z⟩
theorem HoldOk.dps {H : Hp} {h : V} (z : HoldOk K H h) : ∃ d, Dp K H h d ∧ SeqAt.shaped d = true := by
  rcases z with rfl | ⟨hh, m, rfl, z, sm⟩
  · exact ⟨.none, .non, by decide⟩
  · exact ⟨stD m, dp_stamp z, shaped_st m⟩
theorem lv_due (z : Str) {n : List Int} (h : n.length < 10000) : ∀ d ∈ [PyData.tuple [.str z, stD n]], Lv 2 d := fun d hd => by
  rw [List.mem_singleton.mp hd]
  refine .tup (by show 2 < 10000; decide) fun e he => ?_
  simp only [List.mem_cons, List.not_mem_nil, or_false] at he
  rcases he with rfl | rfl
  · exact .str z
  · exact lv_st h
theorem dp_due {H : Hp} {t x : Addr} {z : Str} {n : List Int} (h : SqT K H t [.str z, .ref x]) (hx : TupI K H (.ref x) n) : DpAll K H [.ref t] [PyData.tuple [.str z, stD n]] :=
  .cons (.tup h (.cons (.str z) (.cons (dp_stamp hx) .nil))) .nil
/-! ### _law_cells -/
theorem cut_ints (ns : List Int) (lo hi : Option Int) : ∃ ms : List Int, cutV (ns.map V.int) lo hi = ms.map V.int ∧ ms.length ≤ ns.length ∧ ∀ x ∈ ms, x ∈ ns := by
  unfold cutV
  rw [← List.map_drop, ← List.map_take]
  exact ⟨_, rfl, Nat.le_trans (List.length_take_le' _ _) (by rw [List.length_drop]; omega), fun x hx => List.mem_of_mem_drop (List.mem_of_mem_take hx)⟩
theorem bits_small {z : Int} (h : z.natAbs < 2 ^ 64) : Builtin.Int.intBits z ≤ 1048576 := Nat.le_trans (PyProof.Rows.intBits_le h) (by decide)
def spCells (K : PySem.W.Frag) : Sp := fun vs H Q _ => ∃ (a : Addr) (ns : List Int), vs = [.ref a, .int 0] ∧ SqL K H a (ns.map V.int) ∧ ns.length ≤ 63 ∧ (∀ z ∈ ns, Builtin.Int.intBits z ≤ 1048576) ∧
  ∀ (l : Addr) (H' : Hp) (cs : List Int), H l = none → Same H H' → H' l = some (.lst (cs.map V.int)) → cs.length ≤ 63 → (∀ z ∈ cs, Builtin.Int.intBits z ≤ 1048576) → Q (.ref l) H'
theorem sc_law_cells : FnScope ["script", "start", "found", "k"] ["script", "start"] (defScope s_law_cells) :=
  ⟨rfl, rfl, rfl, by decide +kernel, rfl, by decide +kernel, by decide +kernel⟩
theorem ok_cells (F : Fn K mg "_law_cells" s_law_cells) (T : BlD mg) : Cal P w K mg base "_law_cells" 1 ["script", "start"] (spCells K) := by
  refine cal_of F sc_law_cells
    (fun _ _ _ _ _ _ us hl => match us, hl with | [_, _], _ => rfl) ?_ ?_
  · rintro vs H Q E ⟨a, ns, rfl, _⟩
    rfl
  rintro f cdv A outer s H vs Q E free hr ⟨a, ns, rfl, hS, len, bits, q⟩
  refine ⟨_, (pss_cons (ps_set (i := 2) sc_law_cells.nd rfl (Or.inl rfl) (pe_callTy call_list_of (by rfl) T.list (by decide +kernel) (pa_cons (pe_slice sl_list (pv 0) (po_some (pv 1)) (po_some pe_int)) pa_nil)))
    (pss_cons (ps_for PassesOwn.never rfl (pi_range2 (by rfl) T.range (pa_cons (pe_callB call_len_seq (by rfl) T.len (by decide +kernel) (pa_cons (pv 2) pa_nil)) (pa_cons pe_int pa_nil))) (pg_name (i := 3) sc_law_cells.nd rfl (Or.inl rfl))
    (pss_one (ps_expr (pe_bm PySem.F.plainAttrs_list PySem.F.slot_list_append PySem.F.type_list_append mt_append (pv 2) (pa_cons (pe_op op_add (pe_op op_mul (pe_op op_mod (pe_callB (cr_sum (by rfl)) (by rfl) T.sum (by decide +kernel) (pa_cons (pe_slice sl_list (pv 0) po_none (po_some pe_int)) pa_nil)) pe_int) pe_int) (pe_op op_mul pe_int (pe_op op_add (pv 3) pe_int))) pa_nil)))))
    (pss_one (ps_ret (pv 2))))), ?_⟩
  obtain ⟨ms, em, lm, sub⟩ := cut_ints ns (some 0) (some 63)
  have bm : ∀ z ∈ ms, Builtin.Int.intBits z ≤ 1048576 := fun z hz => bits z (sub z hz)
  refine ⟨_, rfl, _, rfl, _, rfl, _, rfl, a, _, rfl, hS, ?_⟩
  intro s1 h1
  rw [em]
  refine ⟨s1, _, rfl, .inl (SqL.of upd_same), ?_⟩
  intro l hl
  have hl0 : H l = none := by
    by_cases z : l = s1
    · rw [z]; exact h1
    · rw [upd_ne z] at hl; exact hl
  have s2 : Same H (upd (upd H s1 (.lst (ms.map V.int))) l (.lst (ms.map V.int))) := (same_upd h1).trans (same_upd hl)
  have hlm : (ms.map V.int).length = ms.length := List.length_map _
  refine ⟨_, rfl, l, _, rfl, .inl (SqL.of upd_same), _, _, rfl, ⟨by omega, by omega, by omega, by omega⟩, ?_⟩
  obtain ⟨ms2, em2, lm2, sub2⟩ := cut_ints ns none (some 63)
  refine for_range (lo := _) (n := _) (fun i σ G => (∃ k : Option V, σ = [some (V.ref a), some (V.int 0), some (V.ref l), k]) ∧ ∃ cs : List Int, G l = some (.lst (cs.map V.int)) ∧ Same H G ∧ cs.length = ms.length + i ∧
    ∀ z ∈ cs, Builtin.Int.intBits z ≤ 1048576) ⟨⟨_, rfl⟩, ms, upd_same, s2, rfl, bm⟩ ?_ ?_
  · rintro i σ G hi ⟨⟨k, rfl⟩, cs, hG, sG, lc, bc⟩
    have i20 : i < 20 := by omega
    refine ⟨_, rfl, .inl ⟨rfl, _, SqL.of hG⟩, _, rfl, _, rfl, a, _, rfl, sG.seq hS, ?_⟩
    intro s3 h3
    rw [em2]
    refine ⟨s3, ms2, rfl, SqL.of upd_same, ?_⟩
    generalize ms2.sum = su
    refine ⟨_, _, rfl, rfl, (by show (0 : Int) < 1000003; decide), _, _, rfl, rfl, .inr ⟨by decide, by decide⟩, _, rfl, _, _, rfl, rfl, _, _, rfl, rfl, .inl ⟨by decide, by decide⟩, _, _, rfl, rfl, ?_⟩
    have ls : l ≠ s3 := ne_of_none hG h3
    refine ⟨l, _, _, rfl, rfl, by rw [upd_ne ls]; exact hG, by rw [List.length_map]; exact Nat.lt_of_lt_of_le (show cs.length < 100 by omega) (by decide), ?_⟩
    refine ⟨⟨_, rfl⟩, cs ++ [su % 1000003 * 48271 + 104729 * ((((ms.map V.int).length : Nat) : Int) + (i : Int) + 1)], ?_, ?_, by rw [List.length_append, List.length_singleton]; omega, fun z hz => ?_⟩
    · rw [upd_same, List.map_append]; rfl
    · intro b o e
      have nb : b ≠ l := by intro z; rw [z, hl0] at e; cases e
      rw [upd_ne nb]
      exact same_upd h3 _ _ (sG _ _ e)
    · rcases List.mem_append.mp hz with h | h
      · exact bc z h
      · rw [List.mem_singleton.mp h]
        have m0 : 0 ≤ su % 1000003 := Int.emod_nonneg _ (by decide)
        have m1 : su % 1000003 < 1000003 := Int.emod_lt_of_pos _ (by decide)
        exact bits_small (by omega)
  · rintro σ G ⟨⟨k, rfl⟩, cs, hG, sG, lc, bc⟩
    exact ⟨_, rfl, q l G cs hl0 sG hG (by omega) bc⟩
end

end G0
namespace G0
open PySem PySem.Spec PyProof.Rows L2
section
variable {P : Program} {w : World} {K : PySem.W.Frag} {mg : Str → Option Value} {base : Heap} {C : Addr}
/-! ### _law_desk -/
def spDesk (K : PySem.W.Frag) (C : Addr) : Sp := fun vs H Q _ => ∃ (p dx qa W : Addr) (h : V) (b : Bool) (ys ws : List V) (M : List (List Int)), vs = [.ref p, h, .ref W, .bl b] ∧ H p = some (.ins C dx (deskF h (.ref qa) b)) ∧
  HoldOk K H h ∧ SqT K H qa ys ∧ Sts K H ys M ∧ H W = some (.lst ws) ∧ Sts K H ws M ∧ M.length < 100 ∧ ∀ H', Same H H' → Q (.bl true) H'
theorem sc_law_desk : FnScope ["desk", "holder", "waiting", "called"] ["desk", "holder", "waiting", "called"] (defScope s_law_desk) :=
  ⟨rfl, rfl, rfl, by decide +kernel, rfl, by decide +kernel, by decide +kernel⟩
theorem ok_desk (F : Fn K mg "_law_desk" s_law_desk) (T : BlD mg) (S : DeskT K mg C) (C_same : Cal P w K mg base "_law_same" 4 ["found", "due"] (spSameD K 3))
    (ML : Me P w K mg base C "__len__" 1 ["self"] (spDLen (K := K) C)) : Cal P w K mg base "_law_desk" 5 ["desk", "holder", "waiting", "called"] (spDesk K C) := by
  obtain ⟨fL, fdL, GL, bL, mL⟩ := ML
  refine cal_of F sc_law_desk
    (fun _ _ _ _ _ _ us hl => match us, hl with | [_, _, _, _], _ => rfl) ?_ ?_
  · rintro vs H Q E ⟨p, dx, qa, W, h, b, ys, ws, M, rfl, _⟩
    rfl
  rintro f cdv A outer s H vs Q E free hr ⟨p, dx, qa, W, h, b, ys, ws, M, rfl, hp, hh, hq, hM, hW, hM2, len, q⟩
  have hr2 : Room 2 _ := hr.mono (by decide)
  refine ⟨_, (pss_cons (ps_if (PW.pt (pw_or (pt_not (pt_val (pe_cal C_same free (hr.mono (by decide)) (pa_cons (pe_fld (pv 0) (by rfl)) (pa_cons (pv 1) pa_nil))))) (pw_or1 (pt_not (pt_val (pe_cal C_same free (hr.mono (by decide)) (pa_cons (pe_fld (pv 0) (by rfl)) (pa_cons (pv 3) pa_nil))))))))
    (pss_one (ps_ret pe_bl))
    pss_nil)
    (pss_one (ps_ret (pe_and (pe_callB call_isi (by rfl) T.isinstance (by decide +kernel) (pa_cons (pe_fld (pv 0) (by rfl)) (pa_cons (pe_bltn (v := .ty "tuple") (by rfl) T.tuple (by decide +kernel) rfl) pa_nil))) (pe_and (pe_cmpR (op_eqD (u64 hr)) (pe_fld (pv 0) (by rfl)) (pe_callTy call_tuple_of (by rfl) T.tuple (by decide +kernel) (pa_cons (pv 2) pa_nil)) (nomark _)) (pe_one (pe_cmpR op_eq (pe_callB (call_lenOwn mL GL hr2 bL pass0) (by rfl) T.len (by decide +kernel) (pa_cons (pv 0) pa_nil)) (pe_callB call_len_seq (by rfl) T.len (by decide +kernel) (pa_cons (pv 2) pa_nil)) (nomark _)))))))), ?_⟩
  obtain ⟨d, lv, hd⟩ := hh.dp
  refine ⟨_, rfl, p, C, dx, _, _, rfl, hp, S.cl, S.nH, deskF_holder _ _ _, _, rfl, _, _, rfl, .inl ⟨d, lv 2, hd, hd⟩, _, rfl, iteF' rfl ?_⟩
  refine ⟨_, rfl, p, C, dx, _, _, rfl, hp, S.cl, S.nC, deskF_called _ _ _, _, rfl, _, _, rfl, .inl ⟨.bool b, .bl b, .bl b, .bl b⟩, _, rfl, iteF' rfl ?_⟩
  refine ⟨_, rfl, p, C, dx, _, _, rfl, hp, S.cl, S.nQ, deskF_queue _ _ _, _, .ty "tuple", _, _, _, rfl, .ty _, ty_sqt hq, kit_ty (r := true) (by decide +kernel), ?_⟩
  refine ⟨_, rfl, ?_⟩
  refine iteT ?_
  refine ⟨_, rfl, p, C, dx, _, _, rfl, hp, S.cl, S.nQ, deskF_queue _ _ _, _, rfl, W, ws, rfl, .inl ⟨SqL.of hW, ?_⟩⟩
  intro t ht
  have st := same_upd (o := .tup ws) ht
  refine ⟨_, _, .tup (sqt_same st hq) (hM.imp fun a zs z => sqt_same st z).dps, .tup (SqT.of upd_same) (hM2.imp fun a zs z => sqt_same st z).dps, shaped_tups M, shaped_tups M, ?_⟩
  rw [eqv_tups]
  refine ⟨_, rfl, ?_⟩
  refine iteT ?_
  have e1 := hM.len
  have e2 := hM2.len
  refine ⟨_, rfl, p, dx, _, rfl, st _ _ hp, p, dx, qa, h, b, ys, rfl, st _ _ hp, sqt_same st hq, ys.length, rfl, Nat.le_trans (show ys.length ≤ 100 by omega) (by decide), ?_⟩
  refine ⟨_, rfl, W, ws, rfl, .inl (SqL.of (st _ _ hW)), rfl, ?_⟩
  rw [e1, e2, decide_eq_true rfl]
  exact q _ st
end

end G0
namespace G0
open PySem PySem.Spec PyProof.Rows L2
section
variable {P : Program} {w : World} {K : PySem.W.Frag} {mg : Str → Option Value} {base : Heap} {C : Addr}
def spLaw (K : PySem.W.Frag) : Sp := fun vs H Q _ => ∃ (a : Addr) (ns : List Int), vs = [.ref a] ∧ SqL K H a (ns.map V.int) ∧ ns.length ≤ 63 ∧ (∀ z ∈ ns, Builtin.Int.intBits z ≤ 1048576) ∧ ∀ H', Q (.bl true) H'
/-- what stands between two asks -/
structure Wd (K : PySem.W.Frag) (C p dx : Addr) (G0 G : Hp) (j : Nat) (h : V) (W : Addr) (b : Bool) (qa : Addr) (ys ws : List V) (M : List (List Int)) : Prop where
  hp : G p = some (.ins C dx (deskF h (.ref qa) b))
  hold : (h = .non ∧ M = [] ∧ b = false) ∨ ∃ hh m, h = .ref hh ∧ TupI K G (.ref hh) m ∧ StN m
  hq : SqT K G qa ys
  hM : Sts K G ys M
  hW : G W = some (.lst ws)
  hM2 : Sts K G ws M
  len : M.length ≤ j
  chg : Chg p G0 G
theorem Wd.same {C p dx : Addr} {G0 G G' : Hp} {j : Nat} {h : V} {W : Addr} {b : Bool} {qa : Addr} {ys ws : List V} {M : List (List Int)} (D : Wd K C p dx G0 G j h W b qa ys ws M) (s : Same G G') : Wd K C p dx G0 G' j h W b qa ys ws M where
  hp := s _ _ D.hp
  hold := by
    rcases D.hold with z | ⟨hh, m, e, ⟨t, e2, z⟩, sm⟩
    · exact .inl z
    · exact .inr ⟨hh, m, e, ⟨t, e2, sqt_same s z⟩, sm⟩
  hq := sqt_same s D.hq
  hM := D.hM.imp fun a zs z => sqt_same s z
  hW := s _ _ D.hW
  hM2 := D.hM2.imp fun a zs z => sqt_same s z
  len := D.len
  chg := D.chg.trans (Chg.same s)
theorem Wd.next {C p dx : Addr} {G0 G : Hp} {j : Nat} {h : V} {W : Addr} {b : Bool} {qa : Addr} {ys ws : List V} {M : List (List Int)} (D : Wd K C p dx G0 G j h W b qa ys ws M) : Wd K C p dx G0 G (j + 1) h W b qa ys ws M :=
  { D with len := Nat.le_succ_of_le D.len }
theorem sc_law : FnScope ["script", "desk", "holder", "waiting", "called", "cell", "stamp", "due"] ["script"] (defScope s_law) :=
  ⟨rfl, rfl, rfl, by decide +kernel, rfl, by decide +kernel, by decide +kernel⟩
theorem ok_law (F : Fn K mg "law" s_law) (T : BlD mg) (S : DeskT K mg C) (C_desk : Cal P w K mg base "_law_desk" 5 ["desk", "holder", "waiting", "called"] (spDesk K C))
    (C_cells : Cal P w K mg base "_law_cells" 1 ["script", "start"] (spCells K)) (C_stamp : Cal P w K mg base "_law_stamp" 2 ["cell"] (spStamp K))
    (C_same : Cal P w K mg base "_law_same" 4 ["found", "due"] (spSameD K 3)) (MA : Me P w K mg base C "take_ask" 2 ["self", "stamp"] (spAsk K C))
    (MK : ∃ f fd, FnOk P w K mg base CX0 1 f fd ["self"] (spDInit C) ∧ Binds K fd ["self"] [] ∧ Mk K C f) : Cal P w K mg base "law" 6 ["script"] (spLaw K) := by
  obtain ⟨fI, fdI, GI, bI, MI⟩ := MK
  obtain ⟨fA, fdA, GA, bA, mA⟩ := MA
  refine cal_of F sc_law
    (fun _ _ _ _ _ _ us hl => match us, hl with | [_], _ => rfl) ?_ ?_
  · rintro vs H Q E ⟨a, ns, rfl, _⟩
    rfl
  rintro f cdv A outer s H vs Q E free hr ⟨a, ns, rfl, hS, len, bits, q⟩
  have hr2 : Room 2 _ := hr.mono (by decide)
  refine ⟨_, (pss_cons (ps_set (i := 1) sc_law.nd rfl (Or.inl rfl) (pe_make0 MI GI hr2 (by rfl) S.mgC bI .nil pass0))
    (pss_cons (ps_set (i := 2) sc_law.nd rfl (Or.inl rfl) pe_non)
    (pss_cons (ps_set (i := 3) sc_law.nd rfl (Or.inl rfl) (pe_lst pa_nil))
    (pss_cons (ps_set (i := 4) sc_law.nd rfl (Or.inl rfl) pe_bl)
    (pss_cons (ps_if (pt_not (pt_val (pe_cal C_desk free (hr.mono (by decide)) (pa_cons (pv 1) (pa_cons (pv 2) (pa_cons (pv 3) (pa_cons (pv 4) pa_nil)))))))
    (pss_one (ps_ret pe_bl))
    pss_nil)
    (pss_cons (ps_for PassesOwn.never rfl (pi_list (pe_cal C_cells free (hr.mono (by decide)) (pa_cons (pv 0) (pa_cons pe_int pa_nil)))) (pg_name (i := 5) sc_law.nd rfl (Or.inl rfl))
    (pss_cons (ps_set (i := 6) sc_law.nd rfl (Or.inl rfl) (pe_cal C_stamp free (hr.mono (by decide)) (pa_cons (pv 5) pa_nil)))
    (pss_one (ps_if (PW.pt (pw_and (pt_cmpR (op_neD (u64 hr)) (pv 6) (pv 2) (nomark _)) (pw_and1 (pt_cmpR (op_notInD (u65 hr)) (pv 6) (pv 3) (by rfl)))))
    (pss_cons (ps_set (i := 7) sc_law.nd rfl (Or.inl rfl) (pe_lst pa_nil))
    (pss_cons (ps_if (pt_cmpR op_isN (pv 2) pe_non (nomark _))
    (pss_cons (ps_set (i := 2) sc_law.nd rfl (Or.inl rfl) (pv 6))
    (pss_one (ps_set (i := 7) sc_law.nd rfl (Or.inl rfl) (pe_lst (pa_cons (pe_tup (pa_cons pe_str (pa_cons (pv 6) pa_nil))) pa_nil)))))
    (pss_cons (ps_set (i := 3) sc_law.nd rfl (Or.inl rfl) (pe_callB (cr_sortT (d := 3) (B := 10 ^ 41) (by decide)) (by rfl) T.sorted (by decide +kernel) (pa_cons (pe_op op_cat (pv 3) (pe_lst (pa_cons (pv 6) pa_nil))) pa_nil)))
    (pss_one (ps_if (PW.pt (pw_and (pt_cmpR (op_ltT (u0 hr)) (pv 6) (pv 2) (nomark _)) (pw_and1 (pt_not (pt_val (pv 4))))))
    (pss_cons (ps_set (i := 4) sc_law.nd rfl (Or.inl rfl) pe_bl)
    (pss_one (ps_set (i := 7) sc_law.nd rfl (Or.inl rfl) (pe_lst (pa_cons (pe_tup (pa_cons pe_str (pa_cons (pv 2) pa_nil))) pa_nil)))))
    pss_nil))))
    (pss_one (ps_if (PW.pt (pw_or (pt_not (pt_val (pe_cal C_same free (hr.mono (by decide)) (pa_cons (pe_meth (pv 1) S.cl mA GA hr2 bA .nil pass0 (pa_cons (pv 6) pa_nil)) (pa_cons (pv 7) pa_nil))))) (pw_or1 (pt_not (pt_val (pe_cal C_desk free (hr.mono (by decide)) (pa_cons (pv 1) (pa_cons (pv 2) (pa_cons (pv 3) (pa_cons (pv 4) pa_nil))))))))))
    (pss_one (ps_ret pe_bl))
    pss_nil))))
    pss_nil))))
    (pss_one (ps_ret pe_bl)))))))), ?_⟩
  intro p dx np ndx ne
  refine ⟨p, dx, rfl, upd_same, ?_⟩
  intro qa H1 hq1 h1 hp1 c1
  refine ⟨rfl, ?_⟩
  have sI : Same H (upd (upd H dx (.own p)) p (.ins C dx [])) := (same_upd ndx).trans (same_upd (by rw [upd_ne ne.symm]; exact np))
  have sH1 : Same H H1 := fun b o e => c1 _ _ (ne_of_none e np) (sI _ _ e)
  refine ⟨Nat.zero_le _, ?_⟩
  intro W hW
  have s2 := same_upd (o := .lst []) hW
  refine ⟨_, rfl, _, rfl, _, rfl, _, rfl, p, dx, qa, W, .non, false, [], [], [], rfl, s2 _ _ hp1, .inl rfl, sqt_same s2 (SqT.of h1), .nil, upd_same, .nil, by decide, fun G0 s3 => ?_⟩
  refine ⟨_, rfl, iteF' rfl ?_⟩
  have sHG := (sH1.trans s2).trans s3
  refine ⟨_, rfl, a, ns, rfl, sHG.seq hS, len, bits, fun l G1 cs hl s4 hcs lc bc => ?_⟩
  have hpG0 := s3 _ _ (s2 _ _ hp1)
  have s34 := s3.trans s4
  have lp : l ≠ p := fun z => by rw [z, hpG0] at hl; cases hl
  refine ⟨_, rfl, ⟨_, SqL.of hcs⟩, ?_⟩
  refine for_list (K := K) (a := l) (xs := cs.map V.int) (fun j σ G => ∃ (h : V) (W : Addr) (b : Bool) (qa : Addr) (ys ws : List V) (M : List (List Int)) (c s d : Option V), σ = [some (V.ref a), some (V.ref p), some h, some (V.ref W), some (V.bl b), c, s, d] ∧
      Wd K C p dx G1 G j h W b qa ys ws M) ⟨.non, W, false, qa, [], [], [], _, _, _, rfl, ?_⟩ ?_ ?_ ?_
  · exact ⟨s34 _ _ (s2 _ _ hp1), .inl ⟨rfl, rfl, rfl⟩, sqt_same (s2.trans s34) (SqT.of h1), .nil, s34 _ _ upd_same, .nil, Nat.le_refl _, Chg.refl p G1⟩
  · rintro j σ G _ ⟨h, W, b, qa, ys, ws, M, c, s, d, rfl, D⟩
    exact SqL.of (D.chg _ _ lp hcs)
  · rintro j x σ G hj ⟨h, W, b, qa, ys, ws, M, c, s, d, rfl, D⟩
    obtain ⟨c', rfl⟩ : ∃ v, x = V.int v := by
      rw [List.getElem?_map] at hj
      cases e : cs[j]? with
      | none => rw [e] at hj; cases hj
      | some u => rw [e] at hj; exact ⟨u, (Option.some.inj hj).symm⟩
    have hc' : c' ∈ cs := by
      rw [List.getElem?_map] at hj
      cases e : cs[j]? with
      | none => rw [e] at hj; cases hj
      | some u => rw [e] at hj; cases hj; exact List.mem_of_getElem? e
    have jl : j < 63 := by
      have := (List.getElem?_eq_some_iff.mp hj).1
      rw [List.length_map] at this
      omega
    refine ⟨_, rfl, c', rfl, bc c' hc', fun t G2 n ht s5 ht2 sn => ?_⟩
    have D2 := D.same s5
    have hn : TupI K G2 (.ref t) n := ⟨t, rfl, SqT.of ht2⟩
    have hold2 : HoldOk K G2 h := by
      rcases D2.hold with ⟨e, _⟩ | z
      · exact .inl e
      · exact .inr z
    obtain ⟨dh, dhd, dhs⟩ := hold2.dps
    have ML := D2.len
    refine ⟨_, rfl, _, rfl, stD n, dh, dp_stamp hn, dhd, shaped_st n, dhs, _, rfl, ?_⟩
    refine ite2 (fun k1 => ?_) (fun k1 => ?_)
    · refine ⟨_, rfl, _, rfl, stD n, M.map stD, dp_stamp hn, .lst (SqL.of D2.hW) D2.hM2.dps, shaped_st n, shaped_lsts M, _, rfl, ?_⟩
      refine ite2 (fun k2 => ?_) (fun k2 => ?_)
      · refine ⟨Nat.zero_le _, ?_⟩
        intro e he
        have s6 := same_upd (o := .lst []) he
        have D3 := D2.same s6
        have hn3 : TupI K (upd G2 e (.lst [])) (.ref t) n := ⟨t, rfl, sqt_same s6 (SqT.of ht2)⟩
        obtain ⟨G3, hG3⟩ : ∃ G3, G3 = upd G2 e (.lst []) := ⟨_, rfl⟩
        rw [← hG3] at D3 hn3
        rw [← hG3]
        refine ⟨_, rfl, rfl, _, rfl, ?_⟩
        rcases D3.hold with ⟨rfl, rfl, rfl⟩ | ⟨hh, m, rfl, hm, sm⟩
        · refine iteT' (by simp) ?_
          have ey : ys = [] := List.eq_nil_of_length_eq_zero (by rw [D3.hM.len]; rfl)
          have ew : ws = [] := List.eq_nil_of_length_eq_zero (by rw [D3.hM2.len]; rfl)
          subst ey; subst ew
          refine ⟨_, rfl, _, rfl, by show 2 ≤ sizeLine; decide, ?_⟩
          intro t2 ht2
          refine ⟨by show 1 ≤ sizeLine; decide, ?_⟩
          intro E2 hE2
          have s7 := (same_upd (o := .tup [.str "vote", .ref t]) ht2).trans (same_upd (o := .lst [.ref t2]) hE2)
          have vt : upd (upd G3 t2 (.tup [.str "vote", .ref t])) E2 (.lst [.ref t2]) t2 = some (.tup [.str "vote", .ref t]) := same_upd hE2 _ _ upd_same
          have vE : upd (upd G3 t2 (.tup [.str "vote", .ref t])) E2 (.lst [.ref t2]) E2 = some (.lst [.ref t2]) := upd_same
          obtain ⟨G4, hG4⟩ : ∃ G4, G4 = upd (upd G3 t2 (.tup [.str "vote", .ref t])) E2 (.lst [.ref t2]) := ⟨_, rfl⟩
          rw [← hG4] at s7 vt vE
          rw [← hG4]
          have D4 := D3.same s7
          have hn4 : TupI K G4 (.ref t) n := by obtain ⟨_, e, z⟩ := hn3; exact ⟨_, e, sqt_same s7 z⟩
          refine ⟨_, rfl, p, dx, _, rfl, D4.hp, deskF_no _ _ _ (by decide +kernel) (by decide +kernel) (by decide +kernel), _, rfl, p, dx, qa, t, .non, false, [], [], n, rfl, D4.hp, D4.hq, .nil, hn4, sn, by decide,
            .inr ⟨rfl, rfl, fun l5 t5 q5 G5 hl5 h5 ht5 hq5 hp5 c5 => ?_⟩⟩
          have I5 : ∀ {a : Addr} {zs : List V}, SqT K G4 a zs → SqT K G5 a zs := fun z => sqt_chgI D4.hp c5 z
          have nE : E2 ≠ p := ne_of vE D4.hp (by intro z; cases z)
          have nW : W ≠ p := ne_of D4.hW D4.hp (by intro z; cases z)
          have hn5 : TupI K G5 (.ref t) n := by obtain ⟨_, e, z⟩ := hn4; exact ⟨_, e, I5 z⟩
          refine ⟨_, rfl, _, _, rfl, .inr ⟨l5, E2, _, _, _, 2, rfl, rfl, h5, c5 _ _ nE vE, dp_due (SqT.of ht5) hn5, dp_due (I5 (SqT.of vt)) hn5, rfl, by show 1 < 10000; decide, lv_due _ (by rw [sn.1]; decide)⟩, ?_⟩
          refine ⟨_, rfl, iteF' rfl ?_⟩
          refine ⟨_, rfl, _, rfl, _, rfl, _, rfl, p, dx, q5, W, .ref t, false, [], [], [], rfl, hp5, .inr ⟨t, n, rfl, hn5, sn⟩, hq5, .nil, c5 _ _ nW D4.hW, .nil, by decide, fun G6 s6 => ?_⟩
          refine ⟨_, rfl, iteF' rfl ?_⟩
          refine ⟨.ref t, W, false, q5, [], [], [], _, _, _, rfl, ?_⟩
          exact Wd.same ⟨hp5, .inr ⟨t, n, rfl, hn5, sn⟩, hq5, .nil, c5 _ _ nW D4.hW, .nil, Nat.zero_le _, D4.chg.trans c5⟩ s6
        · refine iteF' (by simp) ?_
          refine ⟨_, rfl, _, rfl, by show 1 ≤ sizeLine; decide, ?_⟩
          intro L1 hL1
          have t1 := same_upd (o := .lst [.ref t]) hL1
          have wl := D3.hM2.len
          refine ⟨W, L1, ws, [.ref t], rfl, rfl, t1 _ _ D3.hW, upd_same, Nat.le_trans (show ws.length + 1 ≤ 100 by omega) (by decide), ?_⟩
          intro L2 hL2
          have t2 := t1.trans (same_upd (o := .lst (ws ++ [.ref t])) hL2)
          have vL2 : upd (upd G3 L1 (.lst [.ref t])) L2 (.lst (ws ++ [.ref t])) L2 = some (.lst (ws ++ [.ref t])) := upd_same
          obtain ⟨G4, hG4⟩ : ∃ G4, G4 = upd (upd G3 L1 (.lst [.ref t])) L2 (.lst (ws ++ [.ref t])) := ⟨_, rfl⟩
          rw [← hG4] at t2 vL2
          rw [← hG4]
          have hn4 : TupI K G4 (.ref t) n := by obtain ⟨_, e, z⟩ := hn3; exact ⟨_, e, sqt_same t2 z⟩
          have hs4 : Sts K G4 (ws ++ [.ref t]) (M ++ [n]) := (D3.hM2.imp fun a zs z => sqt_same t2 z).app (Sts.one hn4 sn)
          refine ⟨L2, _, rfl, SqL.of vL2, by rw [List.length_append, List.length_singleton]; omega, fun x hx => ?_, fun ws' W' perm up hW' => ?_⟩
          · obtain ⟨k, _, hk, sk⟩ := hs4.tup x hx
            exact ⟨k, hk, sk.1, sk.2⟩
          obtain ⟨M', hM', pM'⟩ := hs4.perm perm
          have upM' : Up M' := hM'.up up
          have t3 := t2.trans (same_upd (o := .lst ws') hW')
          have vW : upd G4 W' (.lst ws') W' = some (.lst ws') := upd_same
          have hM5 : Sts K (upd G4 W' (.lst ws')) ws' M' := hM'.imp fun a zs z => sqt_same (same_upd hW') z
          obtain ⟨G5, hG5⟩ : ∃ G5, G5 = upd G4 W' (.lst ws') := ⟨_, rfl⟩
          rw [← hG5] at t3 vW hM5
          rw [← hG5]
          have D5 := D3.same t3
          obtain ⟨tn, en, zn⟩ := hn3
          obtain ⟨th, eh, zh⟩ := hm
          cases en; cases eh
          have zn5 := sqt_same t3 zn
          have zh5 := sqt_same t3 zh
          refine ⟨_, rfl, _, rfl, _, _, n, m, rfl, rfl, zn5, zh5, _, rfl, ?_⟩
          cases hlt : HT.lexLt n m with
          | false =>
            refine iteF ?_
            refine ⟨_, rfl, p, dx, _, rfl, D5.hp, deskF_no _ _ _ (by decide +kernel) (by decide +kernel) (by decide +kernel), _, rfl, p, dx, qa, t, .ref hh, b, ys, M, n, rfl, D5.hp, D5.hq, D5.hM, ⟨t, rfl, zn5⟩, sn, by omega,
              .inl ⟨hh, m, rfl, ⟨hh, rfl, zh5⟩, sm, fun l6 q6 G6 ys6 M6 hl6 hq6 hM6 pM6 up6 c6 res => ?_⟩⟩
            rw [if_neg (by simp [hlt])] at res
            obtain ⟨h6, hp6⟩ := res
            have ve : G5 e = some (.lst []) := t3 _ _ (by rw [hG3]; exact upd_same)
            have I6 : ∀ {a : Addr} {zs : List V}, SqT K G5 a zs → SqT K G6 a zs := fun z => sqt_chgI D5.hp c6 z
            have nE : e ≠ p := ne_of ve D5.hp (by intro z; cases z)
            have nW : W' ≠ p := ne_of vW D5.hp (by intro z; cases z)
            have eM : M6 = M' := same_sorted (pM6.trans pM'.symm) (fun k hk => by
              rcases List.mem_append.mp (pM6.mem_iff.mp hk) with h | h
              · exact D5.hM.st k h
              · rw [List.mem_singleton.mp h]; exact sn) up6 upM'
            subst eM
            have lM : M6.length = M.length + 1 := by rw [pM6.length_eq, List.length_append, List.length_singleton]
            have hn6 : TupI K G6 (.ref t) n := ⟨t, rfl, I6 zn5⟩
            have hh6 : TupI K G6 (.ref hh) m := ⟨hh, rfl, I6 zh5⟩
            have hMw : Sts K G6 ws' M6 := hM5.imp fun a zs z => I6 z
            refine ⟨_, rfl, _, _, rfl, .inr ⟨l6, e, _, _, [], 2, rfl, rfl, h6, c6 _ _ nE ve, .nil, .nil, rfl, by decide, fun d hd => absurd hd List.not_mem_nil⟩, ?_⟩
            refine ⟨_, rfl, iteF' rfl ?_⟩
            refine ⟨_, rfl, _, rfl, _, rfl, _, rfl, p, dx, q6, W', .ref hh, b, ys6, ws', M6, rfl, hp6, .inr ⟨hh, m, rfl, hh6, sm⟩, hq6, hM6, c6 _ _ nW vW, hMw, by omega, fun G7 s7 => ?_⟩
            refine ⟨_, rfl, iteF' rfl ?_⟩
            refine ⟨.ref hh, W', b, q6, ys6, ws', M6, _, _, _, rfl, ?_⟩
            exact Wd.same ⟨hp6, .inr ⟨hh, m, rfl, hh6, sm⟩, hq6, hM6, c6 _ _ nW vW, hMw, by omega, D5.chg.trans c6⟩ s7
          | true =>
            refine iteT ?_
            refine ⟨_, rfl, _, rfl, ?_⟩
            cases b with
            | true =>
              refine iteF' rfl ?_
              refine ⟨_, rfl, p, dx, _, rfl, D5.hp, deskF_no _ _ _ (by decide +kernel) (by decide +kernel) (by decide +kernel), _, rfl, p, dx, qa, t, .ref hh, true, ys, M, n, rfl, D5.hp, D5.hq, D5.hM, ⟨t, rfl, zn5⟩, sn, by omega,
                .inl ⟨hh, m, rfl, ⟨hh, rfl, zh5⟩, sm, fun l6 q6 G6 ys6 M6 hl6 hq6 hM6 pM6 up6 c6 res => ?_⟩⟩
              rw [if_neg (by simp [hlt])] at res
              obtain ⟨h6, hp6⟩ := res
              have ve : G5 e = some (.lst []) := t3 _ _ (by rw [hG3]; exact upd_same)
              have I6 : ∀ {a : Addr} {zs : List V}, SqT K G5 a zs → SqT K G6 a zs := fun z => sqt_chgI D5.hp c6 z
              have nE : e ≠ p := ne_of ve D5.hp (by intro z; cases z)
              have nW : W' ≠ p := ne_of vW D5.hp (by intro z; cases z)
              have eM : M6 = M' := same_sorted (pM6.trans pM'.symm) (fun k hk => by
                rcases List.mem_append.mp (pM6.mem_iff.mp hk) with h | h
                · exact D5.hM.st k h
                · rw [List.mem_singleton.mp h]; exact sn) up6 upM'
              subst eM
              have lM : M6.length = M.length + 1 := by rw [pM6.length_eq, List.length_append, List.length_singleton]
              have hn6 : TupI K G6 (.ref t) n := ⟨t, rfl, I6 zn5⟩
              have hh6 : TupI K G6 (.ref hh) m := ⟨hh, rfl, I6 zh5⟩
              have hMw : Sts K G6 ws' M6 := hM5.imp fun a zs z => I6 z
              refine ⟨_, rfl, _, _, rfl, .inr ⟨l6, e, _, _, [], 2, rfl, rfl, h6, c6 _ _ nE ve, .nil, .nil, rfl, by decide, fun d hd => absurd hd List.not_mem_nil⟩, ?_⟩
              refine ⟨_, rfl, iteF' rfl ?_⟩
              refine ⟨_, rfl, _, rfl, _, rfl, _, rfl, p, dx, q6, W', .ref hh, true, ys6, ws', M6, rfl, hp6, .inr ⟨hh, m, rfl, hh6, sm⟩, hq6, hM6, c6 _ _ nW vW, hMw, by omega, fun G7 s7 => ?_⟩
              refine ⟨_, rfl, iteF' rfl ?_⟩
              refine ⟨.ref hh, W', true, q6, ys6, ws', M6, _, _, _, rfl, ?_⟩
              exact Wd.same ⟨hp6, .inr ⟨hh, m, rfl, hh6, sm⟩, hq6, hM6, c6 _ _ nW vW, hMw, by omega, D5.chg.trans c6⟩ s7
            | false =>
              refine iteT' rfl ?_
              refine ⟨_, rfl, by show 2 ≤ sizeLine; decide, ?_⟩
              intro t7 ht7
              refine ⟨by show 1 ≤ sizeLine; decide, ?_⟩
              intro E7 hE7
              have s7 := (same_upd (o := .tup [.str "back", .ref hh]) ht7).trans (same_upd (o := .lst [.ref t7]) hE7)
              have vt : upd (upd G5 t7 (.tup [.str "back", .ref hh])) E7 (.lst [.ref t7]) t7 = some (.tup [.str "back", .ref hh]) := same_upd hE7 _ _ upd_same
              have vE : upd (upd G5 t7 (.tup [.str "back", .ref hh])) E7 (.lst [.ref t7]) E7 = some (.lst [.ref t7]) := upd_same
              obtain ⟨G8, hG8⟩ : ∃ G8, G8 = upd (upd G5 t7 (.tup [.str "back", .ref hh])) E7 (.lst [.ref t7]) := ⟨_, rfl⟩
              rw [← hG8] at s7 vt vE
              rw [← hG8]
              have D8 := D5.same s7
              have zn8 := sqt_same s7 zn5
              have zh8 := sqt_same s7 zh5
              have vW8 := s7 _ _ vW
              have hM8 : Sts K G8 ws' M' := hM5.imp fun a zs z => sqt_same s7 z
              refine ⟨_, rfl, p, dx, _, rfl, D8.hp, deskF_no _ _ _ (by decide +kernel) (by decide +kernel) (by decide +kernel), _, rfl, p, dx, qa, t, .ref hh, false, ys, M, n, rfl, D8.hp, D8.hq, D8.hM, ⟨t, rfl, zn8⟩, sn, by omega,
                .inl ⟨hh, m, rfl, ⟨hh, rfl, zh8⟩, sm, fun l6 q6 G6 ys6 M6 hl6 hq6 hM6 pM6 up6 c6 res => ?_⟩⟩
              rw [if_pos (by simp [hlt])] at res
              obtain ⟨t6, h6, ht6, hp6⟩ := res
              have I6 : ∀ {a : Addr} {zs : List V}, SqT K G8 a zs → SqT K G6 a zs := fun z => sqt_chgI D8.hp c6 z
              have nE : E7 ≠ p := ne_of vE D8.hp (by intro z; cases z)
              have nW : W' ≠ p := ne_of vW8 D8.hp (by intro z; cases z)
              have eM : M6 = M' := same_sorted (pM6.trans pM'.symm) (fun k hk => by
                rcases List.mem_append.mp (pM6.mem_iff.mp hk) with h | h
                · exact D8.hM.st k h
                · rw [List.mem_singleton.mp h]; exact sn) up6 upM'
              subst eM
              have lM : M6.length = M.length + 1 := by rw [pM6.length_eq, List.length_append, List.length_singleton]
              have hn6 : TupI K G6 (.ref t) n := ⟨t, rfl, I6 zn8⟩
              have hh6 : TupI K G6 (.ref hh) m := ⟨hh, rfl, I6 zh8⟩
              have hMw : Sts K G6 ws' M6 := hM8.imp fun a zs z => I6 z
              refine ⟨_, rfl, _, _, rfl, .inr ⟨l6, E7, _, _, _, 2, rfl, rfl, h6, c6 _ _ nE vE, dp_due (SqT.of ht6) hh6, dp_due (I6 (SqT.of vt)) hh6, rfl, by show 1 < 10000; decide, lv_due _ (by rw [sm.1]; decide)⟩, ?_⟩
              refine ⟨_, rfl, iteF' rfl ?_⟩
              refine ⟨_, rfl, _, rfl, _, rfl, _, rfl, p, dx, q6, W', .ref hh, true, ys6, ws', M6, rfl, hp6, .inr ⟨hh, m, rfl, hh6, sm⟩, hq6, hM6, c6 _ _ nW vW8, hMw, by omega, fun G7 s7 => ?_⟩
              refine ⟨_, rfl, iteF' rfl ?_⟩
              refine ⟨.ref hh, W', true, q6, ys6, ws', M6, _, _, _, rfl, ?_⟩
              exact Wd.same ⟨hp6, .inr ⟨hh, m, rfl, hh6, sm⟩, hq6, hM6, c6 _ _ nW vW8, hMw, by omega, D8.chg.trans c6⟩ s7
      · exact ⟨h, W, b, qa, ys, ws, M, _, _, _, rfl, D2.next⟩
    · exact ⟨h, W, b, qa, ys, ws, M, _, _, _, rfl, D2.next⟩
  · rintro σ G ⟨h, W, b, qa, ys, ws, M, c, s, d, rfl, D⟩
    exact q G
end

end G0
namespace G0
open PySem PySem.Spec PyProof.Rows L2
theorem me_of {P : Program} {w : World} {K : PySem.W.Frag} {mg : Str → Option Value} {base : Heap} {C : Addr} {x qual : Str} {st : Stmt} {k : Nat} {ps : List Str} {sp : Sp}
    (F : Fm K C x qual st) (ok : ∀ f fd, Fun K x qual st f fd → FnOk P w K mg base CX0 k f fd ps sp)
    (bd : ∀ (kV doc pm : Value) (an : Option Addr) (cdv ct : Value) (us : List Value), us.length = ps.length →
      bindArgs (PySem.W.fnOf x qual (defArgs st) (defBody st) (defScope st) .none kV doc pm an cdv ct) ⟨us, []⟩ = pure (ps.zip us)) :
    Me P w K mg base C x k ps sp := by
  obtain ⟨f, fd, F, m⟩ := F
  exact ⟨f, fd, ok f fd F, F.binds bd, m⟩
theorem whole {P : Program} {w : World} {K : PySem.W.Frag} {mg : Str → Option Value} {base : Heap} {C : Addr} (T : BlD mg) (S : DeskT K mg C)
    (F_draws : Fn K mg "_law_draws" s_law_draws) (F_same : Fn K mg "_law_same" s_law_same) (F_stamp : Fn K mg "_law_stamp" s_law_stamp)
    (F_desk : Fn K mg "_law_desk" s_law_desk) (F_cells : Fn K mg "_law_cells" s_law_cells) (F_law : Fn K mg "law" s_law)
    (M_init : Fm K C "__init__" "Desk.__init__" s_Desk__init) (M_ask : Fm K C "take_ask" "Desk.take_ask" s_Desk_take_ask)
    (M_len : Fm K C "__len__" "Desk.__len__" s_Desk__len) (M_give : Fm K C "_give_the_free_vote" "Desk._give_the_free_vote" s_Desk_give_the_free_vote)
    (mk : PySem.W.makesIn K C = true) (kc : PySem.W.keepIn K (.ref C) = true) : Cal P w K mg base "law" 6 ["script"] (spLaw K) := by
  have V := me_of (P := P) (w := w) (mg := mg) (base := base) (ps := ["self"]) M_give (fun f fd F => ok_give F T S) (fun _ _ _ _ _ _ us hl => match us, hl with | [_], _ => rfl) 
  have A := me_of (P := P) (w := w) (mg := mg) (base := base) (ps := ["self", "stamp"]) M_ask (fun f fd F => ok_ask F T S V) (fun _ _ _ _ _ _ us hl => match us, hl with | [_, _], _ => rfl) 
  have L := me_of (P := P) (w := w) (mg := mg) (base := base) (ps := ["self"]) M_len (fun f fd F => ok_dlen F T S) (fun _ _ _ _ _ _ us hl => match us, hl with | [_], _ => rfl) 
  have I := me_of (P := P) (w := w) (mg := mg) (base := base) (ps := ["self"]) M_init (fun f fd F => ok_dinit F S) (fun _ _ _ _ _ _ us hl => match us, hl with | [_], _ => rfl) 
  obtain ⟨f, fd, GI, bI, mI⟩ := I
  exact ok_law F_law T S (ok_desk F_desk T S (ok_sames F_same T 3) L) (ok_cells F_cells T) (ok_stamp F_stamp (ok_draws F_draws T)) (ok_sames F_same T 3) A ⟨f, fd, GI, bI, ⟨mk, mI.at_, mI.fn, kc⟩⟩
theorem all_mk {P : Program} {w : World} {K : PySem.W.Frag} {h : Heap} {mg : Str → Option Value} {fa : Addr}
    {C_Desk : Addr} {f1 : Addr} {od1 an1 : Option Addr} {sl1 : Array (Option Value)} {oc1 kV1 dc1 pm1 cd1 ct1 : Value} {f2 : Addr} {od2 an2 : Option Addr} {sl2 : Array (Option Value)} {oc2 kV2 dc2 pm2 cd2 ct2 : Value} {f3 : Addr} {od3 an3 : Option Addr} {sl3 : Array (Option Value)} {oc3 kV3 dc3 pm3 cd3 ct3 : Value} {f4 : Addr} {od4 an4 : Option Addr} {sl4 : Array (Option Value)} {oc4 kV4 dc4 pm4 cd4 ct4 : Value} {f5 : Addr} {od5 an5 : Option Addr} {sl5 : Array (Option Value)} {oc5 kV5 dc5 pm5 cd5 ct5 : Value} {f6 : Addr} {od6 an6 : Option Addr} {sl6 : Array (Option Value)} {oc6 kV6 dc6 pm6 cd6 ct6 : Value} {f7 : Addr} {od7 an7 : Option Addr} {sl7 : Array (Option Value)} {oc7 kV7 dc7 pm7 cd7 ct7 : Value} {f8 : Addr} {od8 an8 : Option Addr} {sl8 : Array (Option Value)} {oc8 kV8 dc8 pm8 cd8 ct8 : Value} {f9 : Addr} {od9 an9 : Option Addr} {sl9 : Array (Option Value)} {oc9 kV9 dc9 pm9 cd9 ct9 : Value} {f10 : Addr} {od10 an10 : Option Addr} {sl10 : Array (Option Value)} {oc10 kV10 dc10 pm10 cd10 ct10 : Value}
    (X : K.In h) (G : h.Ns mainGlobals mg) (hfa : mg "law" = some (.ref fa))
    (aC_Desk : PySem.W.nsIn K mainGlobals "Desk" = some (some (.ref C_Desk)))
    (pg_Desk : PySem.W.plainGet K C_Desk Str.empty = true)
    (hd_Desk : PySem.W.hasDictIn K C_Desk = true)
    (po_Desk : PySem.W.plainOver K C_Desk = true)
    (sa_Desk : PySem.W.findIn K (.ref C_Desk) "__setattr__" = some (some (.builtin "object.__setattr__")))
    (mk_Desk : PySem.W.makesIn K C_Desk = true)
    (kc_Desk : PySem.W.keepIn K (.ref C_Desk) = true)
    (a1 : PySem.W.nsIn K mainGlobals "_law_draws" = some (some (.ref f1)))
    (l1 : K.lookup f1 = some ⟨oc1, od1, .func (PySem.W.fnOf "_law_draws" "_law_draws" (defArgs s_law_draws) (defBody s_law_draws) (defScope s_law_draws) .none kV1 dc1 pm1 an1 cd1 ct1), sl1⟩)
    (c1 : PySem.W.codeIn K cd1 "_law_draws" = true)
    (k1 : PySem.W.keepIn K (.ref f1) = true)
    (a2 : PySem.W.nsIn K mainGlobals "_law_same" = some (some (.ref f2)))
    (l2 : K.lookup f2 = some ⟨oc2, od2, .func (PySem.W.fnOf "_law_same" "_law_same" (defArgs s_law_same) (defBody s_law_same) (defScope s_law_same) .none kV2 dc2 pm2 an2 cd2 ct2), sl2⟩)
    (c2 : PySem.W.codeIn K cd2 "_law_same" = true)
    (k2 : PySem.W.keepIn K (.ref f2) = true)
    (a3 : PySem.W.nsIn K mainGlobals "_law_stamp" = some (some (.ref f3)))
    (l3 : K.lookup f3 = some ⟨oc3, od3, .func (PySem.W.fnOf "_law_stamp" "_law_stamp" (defArgs s_law_stamp) (defBody s_law_stamp) (defScope s_law_stamp) .none kV3 dc3 pm3 an3 cd3 ct3), sl3⟩)
    (c3 : PySem.W.codeIn K cd3 "_law_stamp" = true)
    (k3 : PySem.W.keepIn K (.ref f3) = true)
    (a4 : PySem.W.nsIn K mainGlobals "_law_desk" = some (some (.ref f4)))
    (l4 : K.lookup f4 = some ⟨oc4, od4, .func (PySem.W.fnOf "_law_desk" "_law_desk" (defArgs s_law_desk) (defBody s_law_desk) (defScope s_law_desk) .none kV4 dc4 pm4 an4 cd4 ct4), sl4⟩)
    (c4 : PySem.W.codeIn K cd4 "_law_desk" = true)
    (k4 : PySem.W.keepIn K (.ref f4) = true)
    (a5 : PySem.W.nsIn K mainGlobals "_law_cells" = some (some (.ref f5)))
    (l5 : K.lookup f5 = some ⟨oc5, od5, .func (PySem.W.fnOf "_law_cells" "_law_cells" (defArgs s_law_cells) (defBody s_law_cells) (defScope s_law_cells) .none kV5 dc5 pm5 an5 cd5 ct5), sl5⟩)
    (c5 : PySem.W.codeIn K cd5 "_law_cells" = true)
    (k5 : PySem.W.keepIn K (.ref f5) = true)
    (a6 : PySem.W.nsIn K mainGlobals "law" = some (some (.ref f6)))
    (l6 : K.lookup f6 = some ⟨oc6, od6, .func (PySem.W.fnOf "law" "law" (defArgs s_law) (defBody s_law) (defScope s_law) .none kV6 dc6 pm6 an6 cd6 ct6), sl6⟩)
    (c6 : PySem.W.codeIn K cd6 "law" = true)
    (k6 : PySem.W.keepIn K (.ref f6) = true)
    (a7 : PySem.W.findIn K (.ref C_Desk) "__init__" = some (some (.ref f7)))
    (i7 : PySem.W.isFn K (.ref f7) = true)
    (l7 : K.lookup f7 = some ⟨oc7, od7, .func (PySem.W.fnOf "__init__" "Desk.__init__" (defArgs s_Desk__init) (defBody s_Desk__init) (defScope s_Desk__init) .none kV7 dc7 pm7 an7 cd7 ct7), sl7⟩)
    (c7 : PySem.W.codeIn K cd7 "Desk.__init__" = true)
    (k7 : PySem.W.keepIn K (.ref f7) = true)
    (a8 : PySem.W.findIn K (.ref C_Desk) "take_ask" = some (some (.ref f8)))
    (i8 : PySem.W.isFn K (.ref f8) = true)
    (l8 : K.lookup f8 = some ⟨oc8, od8, .func (PySem.W.fnOf "take_ask" "Desk.take_ask" (defArgs s_Desk_take_ask) (defBody s_Desk_take_ask) (defScope s_Desk_take_ask) .none kV8 dc8 pm8 an8 cd8 ct8), sl8⟩)
    (c8 : PySem.W.codeIn K cd8 "Desk.take_ask" = true)
    (k8 : PySem.W.keepIn K (.ref f8) = true)
    (a9 : PySem.W.findIn K (.ref C_Desk) "__len__" = some (some (.ref f9)))
    (i9 : PySem.W.isFn K (.ref f9) = true)
    (l9 : K.lookup f9 = some ⟨oc9, od9, .func (PySem.W.fnOf "__len__" "Desk.__len__" (defArgs s_Desk__len) (defBody s_Desk__len) (defScope s_Desk__len) .none kV9 dc9 pm9 an9 cd9 ct9), sl9⟩)
    (c9 : PySem.W.codeIn K cd9 "Desk.__len__" = true)
    (k9 : PySem.W.keepIn K (.ref f9) = true)
    (a10 : PySem.W.findIn K (.ref C_Desk) "_give_the_free_vote" = some (some (.ref f10)))
    (i10 : PySem.W.isFn K (.ref f10) = true)
    (l10 : K.lookup f10 = some ⟨oc10, od10, .func (PySem.W.fnOf "_give_the_free_vote" "Desk._give_the_free_vote" (defArgs s_Desk_give_the_free_vote) (defBody s_Desk_give_the_free_vote) (defScope s_Desk_give_the_free_vote) .none kV10 dc10 pm10 an10 cd10 ct10), sl10⟩)
    (c10 : PySem.W.codeIn K cd10 "Desk._give_the_free_vote" = true)
    (k10 : PySem.W.keepIn K (.ref f10) = true)
    (n_Desk_holder : PySem.W.findIn K (.ref C_Desk) "holder" = some none)
    (n_Desk_queue : PySem.W.findIn K (.ref C_Desk) "queue" = some none)
    (n_Desk_called : PySem.W.findIn K (.ref C_Desk) "called" = some none)
    (b_len : PySem.W.nsIn K mainGlobals "len" = some none)
    (b_range : PySem.W.nsIn K mainGlobals "range" = some none)
    (b_tuple : PySem.W.nsIn K mainGlobals "tuple" = some none)
    (b_list : PySem.W.nsIn K mainGlobals "list" = some none)
    (b_isinstance : PySem.W.nsIn K mainGlobals "isinstance" = some none)
    (b_bool : PySem.W.nsIn K mainGlobals "bool" = some none)
    (b_sorted : PySem.W.nsIn K mainGlobals "sorted" = some none)
    (b_sum : PySem.W.nsIn K mainGlobals "sum" = some none)
    (b_int : PySem.W.nsIn K mainGlobals "int" = some none)
    (b_min : PySem.W.nsIn K mainGlobals "min" = some none) :
    ∃ fd : FuncData, (∀ (s : Shared) (v : Value), BindsTo s fd ⟨[v], []⟩ [("script", v)]) ∧
      ∀ base : Heap, K.In base → base.Ns mainGlobals mg → FnG P w K mg base CX0 6 fa fd ["script"] (spLaw K) := by
  have F_law_draws : Fn K mg "_law_draws" s_law_draws := fn_top X G a1 l1 c1 k1
  have F_law_same : Fn K mg "_law_same" s_law_same := fn_top X G a2 l2 c2 k2
  have F_law_stamp : Fn K mg "_law_stamp" s_law_stamp := fn_top X G a3 l3 c3 k3
  have F_law_desk : Fn K mg "_law_desk" s_law_desk := fn_top X G a4 l4 c4 k4
  have F_law_cells : Fn K mg "_law_cells" s_law_cells := fn_top X G a5 l5 c5 k5
  have F_law : Fn K mg "law" s_law := fn_top X G a6 l6 c6 k6
  have M_Desk__init : Fm K C_Desk "__init__" "Desk.__init__" s_Desk__init := fm_top a7 i7 l7 c7 k7
  have M_Desk_take_ask : Fm K C_Desk "take_ask" "Desk.take_ask" s_Desk_take_ask := fm_top a8 i8 l8 c8 k8
  have M_Desk__len : Fm K C_Desk "__len__" "Desk.__len__" s_Desk__len := fm_top a9 i9 l9 c9 k9
  have M_Desk_give_the_free_vote : Fm K C_Desk "_give_the_free_vote" "Desk._give_the_free_vote" s_Desk_give_the_free_vote := fm_top a10 i10 l10 c10 k10
  have B_len := PySem.W.mg_none_of X G b_len
  have B_range := PySem.W.mg_none_of X G b_range
  have B_tuple := PySem.W.mg_none_of X G b_tuple
  have B_list := PySem.W.mg_none_of X G b_list
  have B_isinstance := PySem.W.mg_none_of X G b_isinstance
  have B_bool := PySem.W.mg_none_of X G b_bool
  have B_sorted := PySem.W.mg_none_of X G b_sorted
  have B_sum := PySem.W.mg_none_of X G b_sum
  have B_int := PySem.W.mg_none_of X G b_int
  have B_min := PySem.W.mg_none_of X G b_min
  have T_Desk : Cls K C_Desk := ⟨pg_Desk, hd_Desk, po_Desk, sa_Desk⟩
  have G_Desk := PySem.W.mg_of X G aC_Desk
  exact law_end F_law hfa (fun _ _ _ _ _ _ s v => .of_eq rfl) fun base _ _ => whole ⟨B_len, B_range, B_tuple, B_list, B_isinstance, B_bool, B_sorted, B_sum, B_int, B_min⟩ ⟨T_Desk, n_Desk_holder, n_Desk_queue, n_Desk_called, G_Desk⟩
    F_law_draws F_law_same F_law_stamp F_law_desk F_law_cells F_law M_Desk__init M_Desk_take_ask M_Desk__len M_Desk_give_the_free_vote mk_Desk kc_Desk
end G0
open PySem PySem.W PyProof.Rows in
set_option maxRecDepth 100000 in
set_option maxHeartbeats 0 in
theorem PySem.Challenge.cw_soleseat_k61_votes_asked_for_holds : PySem.Challenge.rw_soleseat_k61_votes_asked_for.Holds := by
  w_on; o_law; k_head; (case hw => w_witness2)
  k_fill
  refine G0.walk_ofGB (l := PySem.Challenge.rw_soleseat_k61_votes_asked_for) (n := 63) (k := 6) (x := "script") (sp := G0.spLaw) rfl (by decide) rfl ⟨rfl, by decide, by decide⟩ (fun w h Y => PySem.W.kIn_of Y) ?F (fun K H a ns hl bits _ hS => ⟨a, ns, rfl, hS, hl, bits, fun _ => rfl⟩)
  case F =>
    intro w mg fa h KX G hmg
    refine' G0.all_mk KX G hmg ?aC_Desk ?pg_Desk ?hd_Desk ?po_Desk ?sa_Desk ?mk_Desk ?kc_Desk ?a1 ?l1 ?c1 ?k1 ?a2 ?l2 ?c2 ?k2 ?a3 ?l3 ?c3 ?k3 ?a4 ?l4 ?c4 ?k4 ?a5 ?l5 ?c5 ?k5 ?a6 ?l6 ?c6 ?k6 ?a7 ?i7 ?l7 ?c7 ?k7 ?a8 ?i8 ?l8 ?c8 ?k8 ?a9 ?i9 ?l9 ?c9 ?k9 ?a10 ?i10 ?l10 ?c10 ?k10 ?n_Desk_holder ?n_Desk_queue ?n_Desk_called ?b_len ?b_range ?b_tuple ?b_list ?b_isinstance ?b_bool ?b_sorted ?b_sum ?b_int ?b_min
    (case aC_Desk => k_is)
    (case pg_Desk => k_is)
    (case hd_Desk => k_is)
    (case po_Desk => k_is)
    (case sa_Desk => k_is)
    (case mk_Desk => k_is)
    (case kc_Desk => k_is)
    (case a1 => k_is)
    (case l1 => k_is)
    (case c1 => k_is)
    (case k1 => k_is)
    (case a2 => k_is)
    (case l2 => k_is)
    (case c2 => k_is)
    (case k2 => k_is)
    (case a3 => k_is)
    (case l3 => k_is)
    (case c3 => k_is)
    (case k3 => k_is)
    (case a4 => k_is)
    (case l4 => k_is)
    (case c4 => k_is)
    (case k4 => k_is)
    (case a5 => k_is)
    (case l5 => k_is)
    (case c5 => k_is)
    (case k5 => k_is)
    (case a6 => k_is)
    (case l6 => k_is)
    (case c6 => k_is)
    (case k6 => k_is)
    (case a7 => k_is)
    (case i7 => k_is)
    (case l7 => k_is)
    (case c7 => k_is)
    (case k7 => k_is)
    (case a8 => k_is)
    (case i8 => k_is)
    (case l8 => k_is)
    (case c8 => k_is)
    (case k8 => k_is)
    (case a9 => k_is)
    (case i9 => k_is)
    (case l9 => k_is)
    (case c9 => k_is)
    (case k9 => k_is)
    (case a10 => k_is)
    (case i10 => k_is)
    (case l10 => k_is)
    (case c10 => k_is)
    (case k10 => k_is)
    (case n_Desk_holder => k_is)
    (case n_Desk_queue => k_is)
    (case n_Desk_called => k_is)
    (case b_len => k_is)
    (case b_range => k_is)
    (case b_tuple => k_is)
    (case b_list => k_is)
    (case b_isinstance => k_is)
    (case b_bool => k_is)
    (case b_sorted => k_is)
    (case b_sum => k_is)
    (case b_int => k_is)
    (case b_min => k_is)
#print axioms PySem.Challenge.cw_soleseat_k61_votes_asked_for_holds
namespace G0

end G0
