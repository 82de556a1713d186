import PyProof.Rows.All
import Wide.All
import OpenK.AllK
import Wide.FinOn
import HandS.ForMost
import HandS.Wide
import HandS.Conv
import HandS.TupAny
import HandS.Deep
import HandS.Steps
import HandS.NoneIn
import HandS.IsInst
import HandS.More
import HandS.Defaults
import HandS.TupSets
import HandS.EndBits
import HandS.SortKw
import HandS.Deep
import PySem.Challenge.RW_soleseat_k62_whole_desk
set_option Elab.async false
set_option maxRecDepth 100000
set_option maxHeartbeats 1000000
set_option linter.all false
/-! Calls where nothing is under repr around: the layer's defs, with one premise more (no guard around). -/
namespace G0
open PySem PySem.Spec PyProof.Rows L2
structure FnG (P : Program) (w : World) (K : PySem.W.Frag) (mg : Str → Option Value) (base : Heap) (CX : CXT)
    (k : Nat) (f : Addr) (fd : FuncData) (ps : List Str) (sp : Sp) : Prop where
  args : ∀ zs G R W, sp zs G R W → zs.length = ps.length
  runs : ∀ (B : Around) (around : List Env) (t : Shared) (G : Hp) (given : Args) (bound : List Value) (zs : List V) (R : VK) (W : XK),
    B.guards = some [] → Room k B → Env0 P w K mg base B around t G →
    BindsTo t fd given (ps.zip bound) → Vals zs bound → sp zs G R W →
    codeAny (model P w) B (.call (.ref f) given) (CR CX around P w G t R W) t
theorem FnG.of {P : Program} {w : World} {K : PySem.W.Frag} {mg : Str → Option Value} {base : Heap} {CX : CXT}
    {k : Nat} {f : Addr} {fd : FuncData} {ps : List Str} {sp : Sp} (F : FnOk P w K mg base CX k f fd ps sp) :
    FnG P w K mg base CX k f fd ps sp :=
  ⟨F.len, fun B around t G given bound zs R W _ hr => F.run B around t G given bound zs R W hr⟩
theorem FnG.mono {P : Program} {w : World} {K : PySem.W.Frag} {mg : Str → Option Value} {base : Heap} {CX : CXT}
    {j k : Nat} {f : Addr} {fd : FuncData} {ps : List Str} {sp : Sp} (F : FnG P w K mg base CX j f fd ps sp) (h : j ≤ k) :
    FnG P w K mg base CX k f fd ps sp :=
  ⟨F.args, fun B around t G given bound zs R W hg hr => F.runs B around t G given bound zs R W hg (hr.mono h)⟩
section
variable {X : Cx} {CX : CXT} {k : Nat} {f : Addr} {fd : FuncData} {ps : List Str} {sp : Sp}
  {dvs : List V} {ds : List Value} {E : XK} {x : Str} {p pos : Pos} {e : Expr} {es : List Expr} {t : TA}
theorem goes {pins : List (Addr × Obj)} {σ : L2.St} {H : Hp} {s : Shared} {Q : VK} {us : List Value} {vs : List V}
    (F : FnG X.prog X.w X.K X.mg X.base CX k f fd ps sp) (free : X.A.guards = some []) (hr : Room k X.A)
    (hb : Binds X.K fd ps ds) (hd : Vals dvs ds) (hx : Passes CX X E)
    (I : Inv X pins σ H s) (r : Vals vs us) (h : sp (vs ++ dvs) H Q E) :
    wpAny (model X.prog X.w) X.A (call (.ref f) us) (EP X pins σ Q) X.xe s := by
  have both : Vals (vs ++ dvs) (us ++ ds) := r.append hd
  have many : (us ++ ds).length = ps.length := both.length.symm.trans (F.args _ _ _ _ h)
  have it := F.runs X.A X.stack s H ⟨us, []⟩ (us ++ ds) (vs ++ dvs) Q E free hr I.env0 (hb s us I.kIn many) both h
  refine wpAny_call (codeAny_mono it fun out s' told => ?_)
  match out, told with
  | .error e, told => exact hx pins σ H s e s' I told
  | .ok (.ret u), told => exact I.after told
  | .ok .next, told => exact told.elim
  | .ok .brk, told => exact told.elim
  | .ok .cont, told => exact told.elim
theorem pe_callG (F : FnG X.prog X.w X.K X.mg X.base CX k f fd ps sp) (free : X.A.guards = some []) (hr : Room k X.A)
    (hg : Gl X x) (hm : X.mg x = some (.ref f)) (hk : PySem.W.keepIn X.K (.ref f) = true)
    (hb : Binds X.K fd ps ds) (hd : Vals dvs ds) (hx : Passes CX X E) (ha : PA X (e :: es) t)
    (n1 : (x == ("__debug__" : Str)) = false := by decide)
    (n2 : starEach (e :: es) X.env = (false, eval e X.env) :: starEach es X.env := by rfl)
    (n3 : (backTo pos (starEach es X.env)).any (·.1) = false := by rfl) :
    PE X (.Call (.Name x p) (e :: es) [] pos) (tCall sp dvs E t) :=
  ⟨fun pins s σ H Q I h => wpAny_Call_Name_kw (ld_glob I hg hm
    (PySem.W.callWith_K (h₀ := X.base) I.ok.mod.kin hk
      (thn (ha.run pos pins s σ H _ I h) fun us s1 ⟨vs, H1, I1, r, q⟩ =>
        ⟨I1.kIn, goes F free hr hb hd hx I1 r q⟩) n2 n3) n1)⟩
end
/-- a def's body, where nothing is under repr -/
theorem fnG_of {CX : CXT} {P : Program} {w : World} {K : PySem.W.Frag} {mg : Str → Option Value} {base : Heap} {k : Nat}
    {f : Addr} {name qual : Str} {params : Arguments} {body : List Stmt} {scope : Scope} {dV kV doc pm cdv ct oc : Value}
    {an od : Option Addr} {osl : Array (Option Value)} {N ps : List Str} {sp : Sp}
    (lk : K.lookup f = some ⟨oc, od, .func (PySem.W.fnOf name qual params body scope dV kV doc pm an cdv ct), osl⟩)
    (coded : PySem.W.codeIn K cdv qual = true) (S : FnScope N ps scope)
    (len : ∀ zs G R W, sp zs G R W → zs.length = ps.length)
    (inner : ∀ (B : Around) (around : List Env) (t : Shared) (G : Hp) (zs : List V) (R : VK) (W : XK), B.guards = some [] →
      Room k (B.deeper (envOfC qual scope t.heap.objs.size f cdv)) → sp zs G R W →
      ∃ tb, PSs (cxOf CX P w K mg base N qual scope f cdv B around t G W) body tb ∧
        tb { nx := fun _ G' => R .non G', rt := R } (start N zs) G) :
    FnG P w K mg base CX (k + 1) f (PySem.W.fnOf name qual params body scope dV kV doc pm an cdv ct) ps sp := by
  refine ⟨len, fun B around t G given bound zs R W free room e0 bd rel asked => ?_⟩
  have many := len _ _ _ _ asked
  have KX : K.In t.heap := e0.mod.kin.keeps fun b o z => (e0.bs b o z).1
  have lim : t.heap.NoLimit := e0.mod.nolimit.keeps fun b o z => (e0.bs b o z).1
  have kinds : ∀ y ∈ ps.zip bound, scope.names.lookup y.1 = some .local ∨
      (scope.names.lookup y.1 = some .cell ∧ ((cellsFrom (t.heap.objs.size + 1) scope.names []).lookup y.1).isSome = true) := by
    intro y hy
    cases S.par y.1 (List.of_mem_zip hy).1 with
    | inl q => exact .inl q
    | inr q => exact .inr ⟨q, PySem.W.cellsFrom_some _ _ _ (.inl q)⟩
  refine codeAny_call_function room.depth (KX _ _ lk) rfl S.co S.gen rfl (PySem.W.codeRec_of KX coded) (bd _ _ _ _ ?_)
  refine wpAny_newFunctionEnv_cells S.kind kinds fun env same t1 made => ?_
  subst same
  refine ⟨lim.keeps made.toInCall.keep, codeAny_func ?_⟩
  obtain ⟨tb, derived, holds⟩ := inner B around t G zs R W free (room.deeper _) asked
  have J : Inv (cxOf CX P w K mg base N qual scope f cdv B around t G W) [] (start N zs) G t1 :=
    inv_start S room.hd e0 many rel made
  refine wpAny_mono (derived.run [] t1 (start N zs) G _ J holds) (fun fl t' told => ?_) fun e t' told => told
  match fl, told with
  | .ret u, ⟨v, σ', G', J', rv, q⟩ => exact ⟨v, G', J'.os, J'.bare, J'.base, J'.hok, rv, q⟩
  | .next, ⟨σ', G', J', q⟩ => exact ⟨V.non, G', J'.os, J'.bare, J'.base, J'.hok, (rfl : Value.none = Value.none), q⟩
  | .brk, ⟨_, _, _, q⟩ => exact q.elim
  | .cont, ⟨_, _, _, q⟩ => exact q.elim
theorem okG {P : Program} {w : World} {K : PySem.W.Frag} {mg : Str → Option Value} {base : Heap} {x qual : Str} {st : Stmt}
    {f : Addr} {fd : FuncData} {N ps : List Str} {k : Nat} {sp : Sp} (F : Fun K x qual st f fd) (S : FnScope N ps (defScope st))
    (len : ∀ zs G R W, sp zs G R W → zs.length = ps.length)
    (inner : ∀ (cdv : Value) (B : Around) (around : List Env) (t : Shared) (G : Hp) (zs : List V) (R : VK) (W : XK), B.guards = some [] →
      Room k (B.deeper (envOfC qual (defScope st) t.heap.objs.size f cdv)) → sp zs G R W →
      ∃ tb, PSs (cxOf CX0 P w K mg base N qual (defScope st) f cdv B around t G W).nox (defBody st) tb ∧
        tb { nx := fun _ G' => R .non G', rt := R } (start N zs) G) :
    FnG P w K mg base CX0 (k + 1) f fd ps sp := by
  obtain ⟨oc, od, kV, doc, pm, an, cdv, ct, osl, rfl, lk, coded⟩ := F.ex
  refine fnG_of lk coded S len fun B around t G zs R W free room asked => ?_
  obtain ⟨tb, derived, holds⟩ := inner cdv B around t G zs R W free room asked
  exact ⟨tb, derived.nox, holds⟩
/-- the law's own call -/
theorem law_callG {P : Program} {w : World} {K : PySem.W.Frag} {mg mb : Str → Option Value} {CX : CXT} {k : Nat} {fa a : Addr}
    {fd : FuncData} {x : Str} {sp : Sp} {s₁ : Shared} {vs : List Value} {ns : List Int}
    (KX : K.In s₁.heap) (gl : s₁.heap.Ns mainGlobals mg) (bl : s₁.heap.Ns builtinsNs mb)
    (boot : ∀ x : Str, x ≠ "__name__" → mb x = bootBuiltins x) (lim : s₁.heap.NoLimit) (nogens : s₁.gens = #[])
    (at_ : s₁.heap.get? a = some { cls := .type "list", data := .seq vs.toArray }) (nums : IntsAre vs ns) (short : ns.length ≤ sizeLine)
    (room : Room k callerA)
    (F : ∀ base : Heap, K.In base → base.Ns mainGlobals mg → FnG P w K mg base CX k fa fd [x] sp)
    (bound : ∀ (s : Shared) (u : Value), BindsTo s fd ⟨[u], []⟩ [(x, u)])
    (asked : ∀ H : Hp, Only H → SqL K H a (ns.map V.int) → sp [.ref a] H (fun v _ => v = .bl true) fun _ _ _ => False)
    (never : ∀ H e s', CX [] H s₁ (fun _ _ _ => False) e s' → False) :
    codeAny (model P w) callerA (.call (.ref fa) ⟨[.ref a], []⟩)
      (fun r s' => r = .ok (.ret (.bool true)) ∧ OldK s₁.heap s'.heap ∧ s'.os = s₁.os ∧ AllBare s'.gens) s₁ := by
  have rel := vals_ints nums
  have many := nums.length
  have from_ : ∀ H : Hp, Only H → SqL K H a (ns.map V.int) → HOk P w H s₁.heap → (∀ b, H b ≠ none → b = a) →
      (H a ≠ none → K.lookup a = none) → codeAny (model P w) callerA (.call (.ref fa) ⟨[.ref a], []⟩)
        (fun r s' => r = .ok (.ret (.bool true)) ∧ OldK s₁.heap s'.heap ∧ s'.os = s₁.os ∧ AllBare s'.gens) s₁ := by
    intro H only seq fine one away
    have down : ∀ {b : Addr} {o : Obj}, s₁.heap.get? b = some o → H b = none →
      (hidT s₁.heap H).get? b = some o := fun e n => hidT_get e n
    have untracked : ∀ {b : Addr} {o : Obj}, s₁.heap.get? b = some o → (b = a → False) → H b = none := by
      intro b o _ n
      by_cases q : H b = none
      · exact q
      · exact (n (one b q)).elim
    have nodict : ∀ {b : Addr} {o : Obj} {es : Array DictEntry} {ep : Nat},
        s₁.heap.get? b = some o → o.data = .dict es ep → H b = none := by
      intro b o es ep e d
      refine untracked e fun q => ?_
      rw [q, at_] at e
      have e' := Option.some.inj e
      rw [← e'] at d
      have d' : Data.seq vs.toArray _ = Data.dict es ep := d
      exact absurd d' (fun h => by cases h)
    have spaces : ∀ {b : Addr} {m : Str → Option Value}, s₁.heap.Ns b m → (hidT s₁.heap H).Ns b m := by
      intro b m ns
      obtain ⟨o, es, ep, e, d, r⟩ := ns
      exact ⟨o, es, ep, down e (nodict e d), d, r⟩
    have written : K.In (hidT s₁.heap H) := by
      intro b o e
      refine down (KX b o e) ?_
      by_cases q : H b = none
      · exact q
      · have same := one b q
        rw [same] at q e
        rw [away q] at e
        cases e
    have md : Mod K mg (hidT s₁.heap H) := by
      obtain ⟨mc, h1, h2⟩ := lim
      exact ⟨written, spaces gl, ⟨mb, spaces bl, boot⟩, ⟨mc, spaces h1, h2⟩⟩
    have e0 : Env0 P w K mg (hidT s₁.heap H) callerA [] s₁ H :=
      ⟨rfl, md, fun b o e => of_hidT e, Nat.le_of_eq (hidT_size _ _), trivial,
        fun b hb => (List.not_mem_nil (show b ∈ ([] : List Addr) from hb)).elim, fine, .of_eq nogens⟩
    have it := (F _ written (spaces gl)).runs callerA [] s₁ H ⟨[.ref a], []⟩ [.ref a] [.ref a] _ _ rfl room e0
      (bound s₁ (.ref a)) (.cons rfl .nil) (asked H only seq)
    refine codeAny_mono it fun out s' told => ?_
    match out, told with
    | .error e, told => exact (never H e s' told).elim
    | .ok .next, told => exact told.elim
    | .ok .brk, told => exact told.elim
    | .ok .cont, told => exact told.elim
    | .ok (.ret u), ⟨v, H', os, bare, un, fine', r', q⟩ =>
      have q' : v = .bl true := q
      subst q'
      have u' : u = Value.bool true := r'
      subst u'
      refine ⟨rfl, OldK.of_keep fun b o e => ?_, os, bare⟩
      cases q : H b with
      | none => exact un.keep b o e q (fun z => (List.not_mem_nil (show b ∈ ([] : List Addr) from z)).elim) (List.not_mem_nil)
      | some u =>
        rcases only b with z | ⟨ob, xs, z⟩
        · have z1 := q.symm.trans z
          cases z1
        · have z' := un.frzs b ob _ z
          have e1 := (fine b _ z).1
          have e2 := (fine' b _ z').1
          exact e2.trans (e1.symm.trans e)
  cases known : K.lookup a with
  | some o =>
    have e := (KX a o known).symm.trans at_
    have e' := Option.some.inj e
    subst e'
    refine from_ (fun _ => none) (fun _ => .inl rfl) (.inr ⟨_, vs.toArray, _, known, rfl, rfl, rfl, ?_, ?_⟩)
      (fun b u z => by have z1 : (none : Option HO) = some u := z; cases z1) (fun b z => (z rfl).elim) fun z => (z rfl).elim
    · rw [List.size_toArray, many]; exact short
    · simpa using rel
  | none =>
    have self : (fun b => if b = a then some (HO.frz { cls := .type "list", data := .seq vs.toArray } (.lst (ns.map V.int))) else none) a
        = some (HO.frz { cls := .type "list", data := .seq vs.toArray } (.lst (ns.map V.int))) := if_pos rfl
    refine from_ (fun b => if b = a then some (HO.frz { cls := .type "list", data := .seq vs.toArray } (.lst (ns.map V.int))) else none)
      (fun b => ?_) (.inl (.inr ⟨_, self⟩)) (fun b u z => ?_) (fun b z => ?_) fun _ => known
    · by_cases same : b = a
      · exact .inr ⟨_, _, if_pos same⟩
      · exact .inl (if_neg same)
    · by_cases same : b = a
      · subst same
        have z' := Option.some.inj ((if_pos rfl).symm.trans z)
        subst z'
        exact ⟨at_, by rw [List.length_map]; exact short, vs, _, rel, at_⟩
      · have z1 := (if_neg same).symm.trans z
        cases z1
    · by_cases same : b = a
      · exact same
      · exact (z (if_neg same)).elim
theorem walk_ofG {l : PySem.W.OpenLaw} {n k : Nat} {q : Program} {loose : List Str} {XP : (Str → Option Value) → Heap → Prop}
    {YP : World → Heap → Prop} {d : DefRec} {K : Params → PySem.W.Frag} {sp : PySem.W.Frag → Sp} {x : Str}
    (hn : l.most = some n) (hn2 : n ≤ sizeLine) (hdf : d.params.defaults = []) (room : Room k callerA)
    (hY : ∀ (w : World) (h : Heap), YP w h → (K w.params).In h)
    (F : ∀ (w : World) (mg : Str → Option Value) (fa : Addr) (h : Heap), (K w.params).In h → h.Ns mainGlobals mg →
      mg d.name = some (.ref fa) → ∃ fd : FuncData, (∀ (s : Shared) (u : Value), BindsTo s fd ⟨[u], []⟩ [(x, u)]) ∧
        ∀ base : Heap, (K w.params).In base → base.Ns mainGlobals mg →
          FnG l.prog w (K w.params) mg base CX0 k fa fd [x] (sp (K w.params)))
    (asked : ∀ (K : PySem.W.Frag) (H : Hp) (a : Addr) (ns : List Int), ns.length ≤ n → Only H → SqL K H a (ns.map V.int) →
      sp K [.ref a] H (fun v _ => v = .bl true) fun _ _ _ => False) :
    PySem.W.WalkO q loose XP YP l.row.toRowW d [] (fun f vs => PySem.call f vs) := by
  refine Att.attach_call hn hdf fun w s₀ s₁ mg mb fa o pm cd doc a vs ns G Y ho hd hcd named obj nums few nogens => ?_
  have KX := hY w _ Y
  obtain ⟨fd, bound, all⟩ := F w mg fa _ KX G.T.g named
  exact law_callG KX G.T.g G.T.b G.T.builtins G.T.nolimit nogens obj nums (Nat.le_trans few hn2) room all bound
    (fun H only seq => asked _ H a ns few only seq) fun H e s' z => z
end G0
namespace G0
open PySem PySem.Spec PyProof.Rows L2
/-! ### a def of the module's top, by its name -/
def Fn (K : PySem.W.Frag) (mg : Str → Option Value) (x : Str) (st : Stmt) : Prop :=
  ∃ f fd, Fun K x x st f fd ∧ mg x = some (.ref f)
def Cal (P : Program) (w : World) (K : PySem.W.Frag) (mg : Str → Option Value) (base : Heap) (x : Str) (k : Nat) (ps : List Str) (sp : Sp) : Prop :=
  ∃ f fd, FnG P w K mg base CX0 k f fd ps sp ∧ Binds K fd ps [] ∧ mg x = some (.ref f) ∧ PySem.W.keepIn K (.ref f) = true ∧
    ∃ oc od osl, K.lookup f = some ⟨oc, od, .func fd, osl⟩
theorem fn_top {K : PySem.W.Frag} {h : Heap} {mg : Str → Option Value} {x : Str} {st : Stmt} {f : Addr} {oc : Value} {od an : Option Addr}
    {osl : Array (Option Value)} {kV doc pm cdv ct : Value} (X : K.In h) (G : h.Ns mainGlobals mg)
    (a : PySem.W.nsIn K mainGlobals x = some (some (.ref f)))
    (l : K.lookup f = some ⟨oc, od, .func (PySem.W.fnOf x x (defArgs st) (defBody st) (defScope st) .none kV doc pm an cdv ct), osl⟩)
    (c : PySem.W.codeIn K cdv x = true) (k : PySem.W.keepIn K (.ref f) = true) : Fn K mg x st :=
  ⟨f, _, fun_mk l c k, PySem.W.mg_of X G a⟩
/-- a method of the class at C -/
def Fm (K : PySem.W.Frag) (C : Addr) (x qual : Str) (st : Stmt) : Prop := ∃ f fd, Fun K x qual st f fd ∧ Meth K C x f
theorem fm_top {K : PySem.W.Frag} {C : Addr} {x qual : Str} {st : Stmt} {f : Addr} {oc : Value} {od an : Option Addr}
    {osl : Array (Option Value)} {kV doc pm cdv ct : Value}
    (a : PySem.W.findIn K (.ref C) x = some (some (.ref f))) (i : PySem.W.isFn K (.ref f) = true)
    (l : K.lookup f = some ⟨oc, od, .func (PySem.W.fnOf x qual (defArgs st) (defBody st) (defScope st) .none kV doc pm an cdv ct), osl⟩)
    (c : PySem.W.codeIn K cdv qual = true) (k : PySem.W.keepIn K (.ref f) = true) : Fm K C x qual st :=
  ⟨f, _, fun_mk l c k, ⟨a, i, k⟩⟩
section
variable {P : Program} {w : World} {K : PySem.W.Frag} {mg : Str → Option Value} {base : Heap}
theorem cal_of {x : Str} {st : Stmt} {N ps : List Str} {k : Nat} {sp : Sp} (F : Fn K mg x st) (S : FnScope N ps (defScope st))
    (bd : ∀ (kV doc pm : Value) (an : Option Addr) (cdv ct : Value) (us : List Value), us.length = ps.length →
      bindArgs (PySem.W.fnOf x x (defArgs st) (defBody st) (defScope st) .none kV doc pm an cdv ct) ⟨us, []⟩ = pure (ps.zip us))
    (len : ∀ zs G R W, sp zs G R W → zs.length = ps.length)
    (inner : ∀ (f : Addr) (cdv : Value) (B : Around) (around : List Env) (t : Shared) (G : Hp) (zs : List V) (R : VK) (W : XK), B.guards = some [] →
      Room k (B.deeper (envOfC x (defScope st) t.heap.objs.size f cdv)) → sp zs G R W →
      ∃ tb, PSs (cxOf CX0 P w K mg base N x (defScope st) f cdv B around t G W).nox (defBody st) tb ∧
        tb { nx := fun _ G' => R .non G', rt := R } (start N zs) G) :
    Cal P w K mg base x (k + 1) ps sp := by
  obtain ⟨f, fd, F, m⟩ := F
  obtain ⟨oc, od, kV, doc, pm, an, cdv, ct, osl, e, lk, c⟩ := id F.ex
  exact ⟨f, fd, okG F S len (inner f), F.binds bd, m, F.kp, oc, od, osl, lk⟩
theorem Cal.mono {x : Str} {j k : Nat} {ps : List Str} {sp : Sp} (C : Cal P w K mg base x j ps sp) (h : j ≤ k) : Cal P w K mg base x k ps sp := by
  obtain ⟨f, fd, F, r⟩ := C
  exact ⟨f, fd, F.mono h, r⟩
/-- the law itself, at the end -/
theorem law_end {st : Stmt} {k : Nat} {sp : Sp} {fa : Addr} (F : Fn K mg "law" st) (hm : mg "law" = some (.ref fa))
    (bt : ∀ (kV doc pm : Value) (an : Option Addr) (cdv ct : Value) (s : Shared) (v : Value),
      BindsTo s (PySem.W.fnOf "law" "law" (defArgs st) (defBody st) (defScope st) .none kV doc pm an cdv ct) ⟨[v], []⟩ [("script", v)])
    (C : ∀ base : Heap, K.In base → base.Ns mainGlobals mg → Cal P w K mg base "law" k ["script"] sp) :
    ∃ fd : FuncData, (∀ (s : Shared) (v : Value), BindsTo s fd ⟨[v], []⟩ [("script", v)]) ∧
      ∀ base : Heap, K.In base → base.Ns mainGlobals mg → FnG P w K mg base CX0 k fa fd ["script"] sp := by
  obtain ⟨f, fd, F, m⟩ := F
  obtain ⟨oc, od, kV, doc, pm, an, cdv, ct, osl, e, lk, c⟩ := id F.ex
  have ef := m.symm.trans hm
  cases ef
  refine ⟨fd, fun s v => by rw [e]; exact bt _ _ _ _ _ _ s v, fun base kin ns => ?_⟩
  obtain ⟨f', fd', G, _, m', _, oc', od', osl', lk'⟩ := C base kin ns
  have ef := m.symm.trans m'
  cases ef
  have ed := lk.symm.trans lk'
  cases ed
  exact G
end
section
variable {X : Cx} {k : Nat} {ps : List Str} {sp : Sp} {x : Str} {p pos : Pos} {e : Expr} {es : List Expr} {t : TA}
theorem pe_cal (C : Cal X.prog X.w X.K X.mg X.base x k ps sp) (free : X.A.guards = some []) (hr : Room k X.A)
    (ha : PA X (e :: es) t) (hg : Gl X x := by rfl) (n1 : (x == ("__debug__" : Str)) = false := by decide)
    (n2 : starEach (e :: es) X.env = (false, eval e X.env) :: starEach es X.env := by rfl)
    (n3 : (backTo pos (starEach es X.env)).any (·.1) = false := by rfl) (hx : Passes CX0 X E0 := by exact pass0) :
    PE X (.Call (.Name x p) (e :: es) [] pos) (tCall sp [] E0 t) := by
  obtain ⟨f, fd, F, b, m, kp, _⟩ := C
  exact pe_callG F free hr hg m kp b .nil hx ha n1 n2 n3
/-! ### repr of data -/
def rRep (K : PySem.W.Frag) : List V → Hp → VK → Prop := fun xs H Q => ∃ (x : V) (d : PyData), xs = [x] ∧ Dp K H x d ∧
  d.showable = true ∧ d.hasDict = false ∧ d.depth ≤ 64 ∧ d.shown.length ≤ sizeLine ∧ Q (.str d.shown) H
theorem call_rep (free : X.A.guards = some []) (hu : X.A.units + 66 < cLine) : CallR X (.builtin "repr") (rRep X.K) := by
  intro pins s σ H xs us Q I r h
  obtain ⟨x, d, rfl, hd, hs, hn, h64, hz, q⟩ := h
  obtain ⟨u, rfl, rx⟩ := vals1 r
  have viaRef : ∀ (a : Addr), x = .ref a → wpAny (model X.prog X.w) X.A (call (.builtin "repr") [u]) (EP X pins σ Q) X.xe s := by
    intro a e
    subst e
    obtain rfl : u = Value.ref a := rx
    obtain ⟨as, rd⟩ := Dp.reads I d _ _ hd (rfl : RelV (.ref a) (.ref a))
    exact repr_of_reads' rd hs (PyData.noDict_hsm hn) free (by omega) (fun _ _ e => e)
      (fun h' w t kp => ⟨.str d.shown, H, I.kept (t' := t) kp, ⟨_, rfl⟩, q⟩) hz
  cases hd with
  | non =>
    obtain rfl : u = Value.none := rx
    exact PySem.P.repr_of_none ⟨.str _, H, I.tok _, ⟨_, rfl⟩, by simpa only [PyData.shown] using q⟩
  | bl b =>
    obtain rfl : u = Value.bool b := rx
    exact PySem.P.repr_of_bool ⟨.str _, H, I.tok _, ⟨_, rfl⟩, by simpa only [PyData.shown] using q⟩
  | int i =>
    obtain ⟨t, rfl⟩ := rx
    exact PySem.P.repr_of_int (by simpa [PyData.showable] using hs) ⟨.str _, H, I.tok _, ⟨_, rfl⟩, by simpa only [PyData.shown] using q⟩
  | str z =>
    obtain ⟨t, rfl⟩ := rx
    exact PySem.P.repr_of_str ⟨.str _, H, I.tok _, ⟨_, rfl⟩, by simpa only [PyData.shown] using q⟩ (by simpa only [PyData.shown] using hz)
  | lst _ _ => exact viaRef _ rfl
  | tup _ _ => exact viaRef _ rfl
/-! ### operators of several kinds in one -/
theorem u_eq (hu : X.A.units + 64 < cLine) : OpR X (compareOp .Eq) (fun x y H Q => rEq x y H Q ∨ rEqD X.K x y H Q) := op_eq.or (op_eqD hu)
theorem u_ne (hu : X.A.units + 64 < cLine) : OpR X (compareOp .NotEq) (fun x y H Q => rNe x y H Q ∨ rNeD X.K x y H Q) := op_ne.or (op_neD hu)
theorem u_in : OpR X (compareOp .In) (fun x y H Q => rIn X.K false x y H Q ∨ rInS x y H Q) := op_in_seq.or op_inS
theorem u_notin : OpR X (compareOp .NotIn) (fun x y H Q => rIn X.K true x y H Q ∨ rNotInS x y H Q) := op_notIn_seq.or op_notInS
end
theorem pe_fldK {X : Cx} {e : Expr} {f : Str} {pos : Pos} {ta : TE} (K : PySem.W.Frag) (ha : PE X e ta) (hK : X.K = K := by rfl)
    (hb : attributeBase e f X.env (eval e X.env) = eval e X.env := by rfl) : PE X (.Attribute e f pos) (tFld K ta f) := by
  subst hK
  exact pe_fld ha hb
/-! ### the written part named, for what stands within a comprehension -/
theorem op_K {X : Cx} {f : Value → Value → Sem Value} (r : PySem.W.Frag → R2) (K : PySem.W.Frag) (ho : OpR X f (r X.K)) (hK : X.K = K) : OpR X f (r K) := hK ▸ ho
theorem ix_K {X : Cx} (r : PySem.W.Frag → R2) (K : PySem.W.Frag) (ho : IxR X (r X.K)) (hK : X.K = K) : IxR X (r K) := hK ▸ ho
theorem call_K {X : Cx} {f : Value} (r : PySem.W.Frag → List V → Hp → VK → Prop) (K : PySem.W.Frag) (ho : CallR X f (r X.K)) (hK : X.K = K) : CallR X f (r K) := hK ▸ ho
section
variable {X : Cx} (K : PySem.W.Frag)
theorem u_inK (hK : X.K = K := by rfl) : OpR X (compareOp .In) (fun x y H Q => rIn K false x y H Q ∨ rInS x y H Q) := op_K (fun K x y H Q => rIn K false x y H Q ∨ rInS x y H Q) K u_in hK
theorem u_notinK (hK : X.K = K := by rfl) : OpR X (compareOp .NotIn) (fun x y H Q => rIn K true x y H Q ∨ rNotInS x y H Q) := op_K (fun K x y H Q => rIn K true x y H Q ∨ rNotInS x y H Q) K u_notin hK
theorem ix_listK (hK : X.K = K := by rfl) : IxR X (rIxL K) := ix_K rIxL K ix_list hK
theorem ix_tupK (hK : X.K = K := by rfl) : IxR X (rIxT K) := ix_K rIxT K ix_tup hK
theorem ix_seqK (hK : X.K = K := by rfl) : IxR X (rIx K) := ix_K rIx K ix_seq hK
theorem call_len_seqK (hK : X.K = K := by rfl) : CallR X (.builtin "len") (fun xs H Q => ∃ p ys, xs = [.ref p] ∧ (SqL K H p ys ∨ SqT K H p ys) ∧ Q (.int ys.length) H) :=
  call_K (fun K xs H Q => ∃ p ys, xs = [.ref p] ∧ (SqL K H p ys ∨ SqT K H p ys) ∧ Q (.int ys.length) H) K call_len_seq hK
end
/-! ### what changes: one list -/
/-- all that is tracked but p stays -/
def Chg (p : Addr) (H H' : Hp) : Prop := ∀ b o, b ≠ p → H b = some o → H' b = some o
theorem Chg.refl (p : Addr) (H : Hp) : Chg p H H := fun _ _ _ e => e
theorem Chg.trans {p : Addr} {H H1 H2 : Hp} (a : Chg p H H1) (b : Chg p H1 H2) : Chg p H H2 := fun c o n e => b c o n (a c o n e)
theorem Chg.self {p : Addr} {H : Hp} {o : HO} : Chg p H (upd H p o) := fun b u n e => by rw [upd_ne n]; exact e
theorem Chg.new {p q : Addr} {H H1 : Hp} {o : HO} (a : Chg p H H1) (n : H1 q = none) : Chg p H (upd H1 q o) := fun b u m e => by
  rw [upd_ne (ne_of_none (a b u m e) n)]; exact a b u m e
theorem Chg.same {p : Addr} {H H1 : Hp} (a : Same H H1) : Chg p H H1 := fun b o _ e => a b o e
theorem same_upd {H : Hp} {q : Addr} {o : HO} (n : H q = none) : Same H (upd H q o) := fun b u e => by
  rw [upd_ne (ne_of_none e n)]; exact e
/-! ### a law's draws: the pot -/
def PotL (n : Nat) (xs : List V) : Prop := ∃ a b c : Int, xs = [.int a, .int b, .int c] ∧ 0 ≤ a ∧ 0 ≤ b ∧ b < 2305843009213693951 ∧ 0 ≤ c ∧ c ≤ n
def PotAt (n : Nat) (H : Hp) (p : Addr) : Prop := ∃ xs, H p = some (.lst xs) ∧ PotL n xs
theorem PotL.mono {n m : Nat} {xs : List V} (h : PotL n xs) (le : n ≤ m) : PotL m xs := by
  obtain ⟨a, b, c, e, h1, h2, h3, h4, h5⟩ := h
  exact ⟨a, b, c, e, h1, h2, h3, h4, by omega⟩
theorem PotAt.mono {n m : Nat} {H : Hp} {p : Addr} (h : PotAt n H p) (le : n ≤ m) : PotAt m H p := by
  obtain ⟨xs, e, h⟩ := h
  exact ⟨xs, e, h.mono le⟩
theorem PotAt.keep {n : Nat} {H H' : Hp} {p : Addr} (h : PotAt n H p) (s : Same H H') : PotAt n H' p := by
  obtain ⟨xs, e, h⟩ := h
  exact ⟨xs, s _ _ e, h⟩
theorem PotAt.at {n : Nat} {H : Hp} {p : Addr} {xs : List V} (h : PotL n xs) : PotAt n (upd H p (.lst xs)) p := ⟨xs, upd_same, h⟩
end G0
/-! Wide powers, the law's own call with the script's bits told, len of an own object, sorted of a tuple of tuples of ints. -/
namespace G0
open PySem PySem.Spec PyProof.Rows L2
def CPowB (i j : Int) : Prop := 0 ≤ j ∧ (Builtin.Int.intBits i : Int) * j ≤ 2 ^ 27
theorem op_powB {X : Cx} : OpR X (binaryOp .Pow) (rI CPowB fun i j => .int (i ^ j.toNat)) := opI fun _ _ _ _ _ _ _ hc q => pow_int hc.1 hc.2 q
theorem walk_ofGB {l : PySem.W.OpenLaw} {n k : Nat} {q : Program} {loose : List Str} {XP : (Str → Option Value) → Heap → Prop}
    {YP : World → Heap → Prop} {d : DefRec} {K : Params → PySem.W.Frag} {sp : PySem.W.Frag → Sp} {x : Str}
    (hn : l.most = some n) (hn2 : n ≤ sizeLine) (hdf : d.params.defaults = []) (room : Room k callerA)
    (hY : ∀ (w : World) (h : Heap), YP w h → (K w.params).In h)
    (F : ∀ (w : World) (mg : Str → Option Value) (fa : Addr) (h : Heap), (K w.params).In h → h.Ns mainGlobals mg →
      mg d.name = some (.ref fa) → ∃ fd : FuncData, (∀ (s : Shared) (u : Value), BindsTo s fd ⟨[u], []⟩ [(x, u)]) ∧
        ∀ base : Heap, (K w.params).In base → base.Ns mainGlobals mg →
          FnG l.prog w (K w.params) mg base CX0 k fa fd [x] (sp (K w.params)))
    (asked : ∀ (K : PySem.W.Frag) (H : Hp) (a : Addr) (ns : List Int), ns.length ≤ n → (∀ z ∈ ns, Builtin.Int.intBits z ≤ 1048576) → Only H → SqL K H a (ns.map V.int) →
      sp K [.ref a] H (fun v _ => v = .bl true) fun _ _ _ => False) :
    PySem.W.WalkO q loose XP YP l.row.toRowW d [] (fun f vs => PySem.call f vs) := by
  refine Att.attach_callB hn hdf fun w s₀ s₁ mg mb fa o pm cd doc a vs ns G Y ho hd hcd named obj nums few bits nogens => ?_
  have KX := hY w _ Y
  obtain ⟨fd, bound, all⟩ := F w mg fa _ KX G.T.g named
  exact law_callG KX G.T.g G.T.b G.T.builtins G.T.nolimit nogens obj nums (Nat.le_trans few hn2) room all bound
    (fun H only seq => asked _ H a ns few bits only seq) fun H e s' z => z
/-! ### len of an own object -/
section
variable {X : Cx} {CX : CXT} {k : Nat} {f C : Addr} {fd : FuncData} {ps : List Str} {sp : Sp} {dvs : List V} {ds : List Value} {E : XK}
theorem run_fn1 {pins : List (Addr × Obj)} {σ : L2.St} {H : Hp} {s : Shared} {Q : VK} {us : List Value} {vs : List V}
    (F : FnOk X.prog X.w X.K X.mg X.base CX k f fd ps sp) (hr : Room (k + 1) X.A) (hb : Binds X.K fd ps ds) (hd : Vals dvs ds) (hx : Passes CX X E)
    (I : Inv X pins σ H s) (r : Vals vs us) (h : sp (vs ++ dvs) H Q E) : wpAny (model X.prog X.w) X.A.in1 (call (.ref f) us) (EP X pins σ Q) X.xe s := by
  have r2 : Vals (vs ++ dvs) (us ++ ds) := r.append hd
  have hl : (us ++ ds).length = ps.length := by rw [← r2.length]; exact F.len _ _ _ _ h
  refine wpAny_call (codeAny_mono (F.run X.A.in1 X.stack s H ⟨us, []⟩ (us ++ ds) (vs ++ dvs) Q E hr.in1 I.env0.in1 (hb s us I.kIn hl) r2 h) fun r s' hq => ?_)
  cases r with
  | error e => exact hx pins σ H s e s' I hq
  | ok fl =>
    cases fl with
    | ret u => exact I.after hq
    | next => exact False.elim hq
    | brk => exact False.elim hq
    | cont => exact False.elim hq
def rLenOwn (C : Addr) (sp : Sp) (E : XK) : List V → Hp → VK → Prop := fun xs H Q => ∃ (a dx : Addr) (fs : List (Str × V)), xs = [.ref a] ∧ H a = some (.ins C dx fs) ∧
  sp [.ref a] H (fun v H2 => ∃ n : Nat, v = .int n ∧ n ≤ sizeLine ∧ Q (.int n) H2) E
theorem call_lenOwn (hm : Meth X.K C "__len__" f) (F : FnOk X.prog X.w X.K X.mg X.base CX k f fd ps sp) (hr : Room (k + 1) X.A) (hb : Binds X.K fd ps []) (hx : Passes CX X E) :
    CallR X (.builtin "len") (rLenOwn C sp E) := by
  intro pins s σ H xs us Q I r h
  obtain ⟨a, dx, fs, rfl, e, q⟩ := h
  obtain ⟨u, rfl, ru⟩ := vals1 r
  obtain rfl : u = Value.ref a := ru
  obtain ⟨mA, O, _, _, _, _⟩ := ins_get I.hok e
  obtain ⟨od, ho, _⟩ := lookIn_ns O.ns
  have IA : PySem.W.InstAt s.heap a (PySem.W.instObj C dx) C (some od) := ⟨O.obj, rfl, rfl, ho⟩
  refine Calls.call_function_entry kind_len plain_len entry_len (args_len1 _) ?_
  unfold Builtin.«len»
  refine wpAny_bind (m := oneArg "len" _) (wpAny_pure ?_)
  refine wpAny_bind (m := callSpecial? (.ref a) (Str.ofString "__len__")) (PySem.W.special_fn I.kIn IA hm.at_ (beq_iff_eq.mp hm.fn)
    (wpAny_mono (run_fn1 (us := [.ref a]) (vs := [.ref a]) F hr hb .nil hx I (.cons rfl .nil) q) (fun r s' hr' => ?_) fun _ _ y => y))
  obtain ⟨v, H', I', rv, n, rfl, hn, q'⟩ := hr'
  obtain ⟨t, rfl⟩ := (show ∃ t, r = Value.int n t from rv)
  rw [sizeLine_eq] at hn
  refine wpAny_bind (wpAny_holding (wpAny_pure ?_))
  refine wpAny_bind (wpAny_letGo ?_)
  show wpAny _ _ (if ((n : Nat) : Int) < 0 then _ else _) _ _ _
  rw [if_neg (by omega)]
  show wpAny _ _ (if ((n : Nat) : Int) ≥ 2 ^ 63 then _ else _) _ _ _
  rw [if_neg (by omega)]
  exact wpAny_bind (wpAny_mkInt (wpAny_pure ⟨_, rfl, .int n, H', I'.tok _, ⟨_, rfl⟩, q'⟩))
end
/-! ### sorted of a tuple of tuples of ints -/
section
variable {prog : Program} {w : World} {A : Around} {E : Value → Shared → Prop} {s : Shared}
theorem collect_tup {l : Addr} {vs : List Value} {Q : List Value → Shared → Prop} (hl : IsTup s.heap l vs.toArray)
    (h : Q vs { s with heap := (s.heap.push (seqObj "list" #[] 0)).update s.heap.objs.size (Obj.mapSeq (· ++ vs.toArray)) }) (hsz : vs.length ≤ sizeLine) :
    wpAny (model prog w) A (collect (.ref l)) Q E s := by
  obtain ⟨o, ho, hc, n, hd⟩ := id hl
  unfold collect
  refine wpAny_bind (wpAny_runValue (codeAny_builtin entry_proto_collect' ?_))
  show wpAny _ _ (do again (.builtin "list.__iadd__" ⟨[← newList [], .ref l], []⟩)) _ _ s
  refine wpAny_bind (wpAny_newList (wpAny_pure ⟨Code.quiet_builtin _ (by decide +kernel), codeAny_builtin entry_list_iadd' ?_⟩))
  show wpAny _ _ (Builtin.List.listExtendWith (.ref s.heap.objs.size) (.ref l) (.ref s.heap.objs.size)) _ _ { s with heap := s.heap.push (seqObj "list" #[] 0) }
  unfold Builtin.List.listExtendWith
  have ho' : (s.heap.push (seqObj "list" #[] 0)).get? l = some o := Heap.get?_push_of_some _ ho
  refine wpAny_bind (wpAny_typeOf (T := "tuple") ⟨o, ho', hc⟩ ?_)
  have ht : (Value.type "tuple" == Value.type "tuple") = true := by rfl
  rw [if_pos (by rw [ht]; simp)]
  refine wpAny_bind (listItems_at ho' hd ?_)
  refine wpAny_bind (listItems_at (xs := #[]) (n := 0) (Heap.get?_push_size _ rfl) rfl ?_)
  rw [if_neg (by simp)]
  refine wpAny_bind (listUpdate_at (xs := #[]) (n := 0) (Heap.get?_push_size _ rfl) rfl ?_ (Nat.zero_le _) (by show (#[] ++ vs.toArray).size ≤ sizeLine + 1; simp only [Array.size_append, List.size_toArray, List.length_nil]; omega))
  refine wpAny_pure ?_
  show wpAny (model prog w) A (do
      let o ← load s.heap.objs.size
      match o.data with
      | .seq xs _ => pure xs.toList
      | _ => unsupported "internal:collect") Q E { s with heap := (s.heap.push (seqObj "list" #[] 0)).update s.heap.objs.size (Obj.mapSeq (· ++ vs.toArray)) }
  refine wpAny_bind (wpAny_load (get?_update_seq (Heap.get?_push_size _ rfl) _) ?_)
  show wpAny _ _ (pure ((#[] : Array Value) ++ vs.toArray).toList) Q E _
  rw [show ((#[] : Array Value) ++ vs.toArray).toList = vs by simp]
  exact wpAny_pure h
open TS in
theorem sorted_tupsT {l : Addr} {vs : List Value} {d : Nat} {B : Int} {Q : Value → Shared → Prop} (hl : IsTup s.heap l vs.toArray) (h64 : vs.length < 64) (hd : 1 ≤ d) (x : TupsOk s.heap d B vs)
    (h : ∀ out : Array Value, out.toList.Perm vs → out.toList.Pairwise (fun u v => code B (intsOf s.heap u) ≤ code B (intsOf s.heap v)) → Q (.ref (s.heap.objs.size + 1)) { s with heap := sortedAll s.heap vs out }) :
    wpAny (model prog w) A (call (.builtin "sorted") [.ref l]) Q E s := by
  refine Calls.call_function_entry kind_sorted plain_sorted entry_sorted (args_sorted1 _) ?_
  unfold Builtin.«sorted»
  refine wpAny_bind (m := checkCount "sorted" 1 1 _) (wpAny_pure ?_)
  refine wpAny_bind (collect_tup hl ?_ (by rw [sizeLine_eq]; omega))
  refine wpAny_bind (wpAny_newList ?_ (by rw [sizeLine_eq]; omega))
  have hsz : ((s.heap.push (seqObj "list" #[] 0)).update s.heap.objs.size (Obj.mapSeq (· ++ vs.toArray))).objs.size = s.heap.objs.size + 1 := by
    rw [Heap.size_update, size_push']
  have hoL : (((s.heap.push (seqObj "list" #[] 0)).update s.heap.objs.size (Obj.mapSeq (· ++ vs.toArray))).push (seqObj "list" vs.toArray 0)).get? (s.heap.objs.size + 1) = some (seqObj "list" vs.toArray 0) := by
    rw [← hsz]; exact Heap.get?_push_size _ rfl
  have keep : ∀ b o, s.heap.get? b = some o → o.cls = .type "tuple" → (((s.heap.push (seqObj "list" #[] 0)).update s.heap.objs.size (Obj.mapSeq (· ++ vs.toArray))).push (seqObj "list" vs.toArray 0)).get? b = some o := fun b o q _ => by
    have hlt : b < s.heap.objs.size := Heap.lt_size q
    rw [Heap.get?_push_ne _ _ _ (by rw [hsz]; exact Nat.ne_of_lt (Nat.lt_succ_of_lt hlt)), Heap.get?_update_ne _ _ _ _ (Nat.ne_of_lt hlt), Heap.get?_push_ne _ _ _ (Nat.ne_of_lt hlt)]
    exact q
  show wpAny _ _ _ _ _ { s with heap := ((s.heap.push (seqObj "list" #[] 0)).update s.heap.objs.size (Obj.mapSeq (· ++ vs.toArray))).push (seqObj "list" vs.toArray 0) }
  rw [hsz]
  refine wpAny_bind (wpAny_holding (wpAny_call_entry slot_list_sort ⟨_, hoL, rfl⟩ entry_list_sort (sort_tups hoL h64 hd (x.keeps keep) (fun v => code B (intsOf s.heap v)) (fun v hv ns t => ?_) fun out a1 a2 => ⟨_, rfl, ?_⟩) (args_list_sort _)))
  · obtain ⟨ns0, t0, _⟩ := x v hv
    have e : ns = ns0 := t.ints.symm.trans (t0.keeps keep).ints
    rw [e]
    show code B (intsOf s.heap v) = code B ns0
    rw [t0.ints]
  · exact wpAny_pure ⟨_, rfl, h out a1 a2⟩
end
def rSortUT (K : PySem.W.Frag) (d : Nat) (B : Int) : List V → Hp → VK → Prop := fun vs H Q => ∃ (a : Addr) (xs : List V), vs = [V.ref a] ∧ SqT K H a xs ∧ xs.length < 64 ∧ (∀ x ∈ xs, ∃ ns, TupI K H x ns ∧ ns.length = d ∧ TS.Bd B ns) ∧
  ∀ (ys : List V) (p : Addr), ys.Perm xs → ys.Pairwise (fun x y => ∀ n m, TupI K H x n → TupI K H y m → TS.code B n ≤ TS.code B m) → H p = none → Q (.ref p) (upd H p (.lst ys))
theorem cr_sortTT {X : Cx} {d : Nat} {B : Int} (hd : 1 ≤ d) : CallR X (.builtin "sorted") (rSortUT X.K d B) := by
  intro pins s σ H vs us Q I r h
  obtain ⟨a, xs, rfl, hs, h64, hx, q⟩ := h
  obtain ⟨its, rv, hl, hz⟩ := I.tuple hs
  rw [Vals.ref1 r]
  obtain ⟨e1, e2⟩ := bkV_refs rv fun x m => by
    obtain ⟨ns, ⟨t, e, _⟩, _⟩ := hx x m
    exact ⟨t, e⟩
  refine sorted_tupsT (d := d) (B := B) hl (by rw [← rv.length]; exact h64) hd (fun v hv => ?_) fun out h1 h2 => ?_
  · obtain ⟨t, rfl⟩ := e2 v hv
    have hm : V.ref t ∈ xs := by
      rw [e1]
      exact List.mem_map.mpr ⟨_, hv, rfl⟩
    obtain ⟨ns, ⟨t', e, ht⟩, hn, hb⟩ := hx _ hm
    cases e
    exact ⟨ns, tupI_raw I ht, hn, hb⟩
  · obtain ⟨ep, he'⟩ := PyProof.Rows.sortedAll_at s.heap its out
    have h3 : ∀ u ∈ out.toList, ∃ a, u = Value.ref a := fun u hu => e2 u (h1.mem_iff.mp hu)
    have hp : (out.toList.map bkV).Perm xs := by
      rw [e1]
      exact h1.map bkV
    have hlen : (out.toList.map bkV).length ≤ sizeLine := by
      rw [hp.length_eq]
      exact hz
    refine ⟨.ref _, upd H (s.heap.objs.size + 1) (.lst (out.toList.map bkV)), I.laid (t' := s.toks) (fun _ _ => PyProof.Rows.sortedAll_old) (Nat.le_succ _) ⟨hlen, out.toList, ep, bkV_vals h3, he'⟩, rfl, q _ _ hp ?_ (I.hok.fresh (Nat.le_succ _))⟩
    rw [List.pairwise_map]
    refine List.Pairwise.imp (fun {u v} huv n m hn hm => ?_) h2
    obtain ⟨t, et, ht⟩ := hn
    obtain ⟨t', et', ht'⟩ := hm
    have eu := bkV_ref et
    have ev := bkV_ref et'
    have i1 : TS.intsOf s.heap u = n := by
      rw [eu]
      exact (tupI_raw I ht).ints
    have i2 : TS.intsOf s.heap v = m := by
      rw [ev]
      exact (tupI_raw I ht').ints
    rw [← i1, ← i2]
    exact huv
end G0
namespace G0
open PySem PySem.Spec PyProof.Rows L2
/-! ### data -/
mutual
def noL : PyData → Bool
  | .none | .bool _ | .int _ | .str _ => true
  | .list _ | .dict _ => false
  | .tuple xs => noLs xs
def noLs : List PyData → Bool
  | [] => true
  | x :: xs => noL x && noLs xs
end
section
variable {K : PySem.W.Frag} {H H' : Hp} {p : Addr}
theorem sqt_chg (hp : ∃ xs, H p = some (.lst xs)) (c : Chg p H H') {a : Addr} {xs : List V} (h : SqT K H a xs) : SqT K H' a xs := by
  obtain ⟨ys, hp⟩ := hp
  rcases h with (h | ⟨o, h⟩) | h
  · exact .inl (.inl (c _ _ (ne_of h hp (by intro z; cases z)) h))
  · exact .inl (.inr ⟨o, c _ _ (ne_of h hp (by intro z; cases z)) h⟩)
  · exact .inr h
theorem sqt_same (c : Same H H') {a : Addr} {xs : List V} (h : SqT K H a xs) : SqT K H' a xs := by
  rcases h with (h | ⟨o, h⟩) | h
  · exact .inl (.inl (c _ _ h))
  · exact .inl (.inr ⟨o, c _ _ h⟩)
  · exact .inr h
mutual
theorem dp_chg (hp : ∃ xs, H p = some (.lst xs)) (c : Chg p H H') : ∀ (d : PyData) (v : V), noL d = true → Dp K H v d → Dp K H' v d
  | .none, _, _, h => by cases h; exact .non
  | .bool _, _, _, h => by cases h; exact .bl _
  | .int _, _, _, h => by cases h; exact .int _
  | .str _, _, _, h => by cases h; exact .str _
  | .list _, _, n, _ => by simp [noL] at n
  | .dict _, _, n, _ => by simp [noL] at n
  | .tuple ds, _, n, h => by
    cases h with
    | tup hs ha => exact .tup (sqt_chg hp c hs) (dps_chg hp c ds _ (by simpa [noL] using n) ha)
theorem dps_chg (hp : ∃ xs, H p = some (.lst xs)) (c : Chg p H H') : ∀ (ds : List PyData) (vs : List V), noLs ds = true → DpAll K H vs ds → DpAll K H' vs ds
  | [], _, _, h => by cases h; exact .nil
  | d :: ds, _, n, h => by
    simp only [noLs, Bool.and_eq_true] at n
    cases h with
    | cons h1 h2 => exact .cons (dp_chg hp c d _ n.1 h1) (dps_chg hp c ds _ n.2 h2)
end
mutual
theorem dp_same (c : Same H H') : ∀ (d : PyData) (v : V), Dp K H v d → Dp K H' v d
  | .none, _, h => by cases h; exact .non
  | .bool _, _, h => by cases h; exact .bl _
  | .int _, _, h => by cases h; exact .int _
  | .str _, _, h => by cases h; exact .str _
  | .list ds, _, h => by
    cases h with
    | lst hs ha => exact .lst (c.seq hs) (dps_same c ds _ ha)
  | .dict _, _, h => by cases h
  | .tuple ds, _, h => by
    cases h with
    | tup hs ha => exact .tup (sqt_same c hs) (dps_same c ds _ ha)
theorem dps_same (c : Same H H') : ∀ (ds : List PyData) (vs : List V), DpAll K H vs ds → DpAll K H' vs ds
  | [], _, h => by cases h; exact .nil
  | d :: ds, _, h => by
    cases h with
    | cons h1 h2 => exact .cons (dp_same c d _ h1) (dps_same c ds _ h2)
end
theorem dps_app {vs ws : List V} {ds es : List PyData} : DpAll K H vs ds → DpAll K H ws es → DpAll K H (vs ++ ws) (ds ++ es) := by
  intro h g
  match vs, ds, h with
  | [], [], _ => exact g
  | _ :: _, _ :: _, .cons h1 h2 => exact .cons h1 (dps_app h2 g)
theorem dps_len {vs : List V} {ds : List PyData} : DpAll K H vs ds → vs.length = ds.length := by
  intro h
  match vs, ds, h with
  | [], [], _ => rfl
  | _ :: _, _ :: _, .cons _ h2 => exact congrArg (· + 1) (dps_len h2)
end
theorem noLs_of : ∀ {ds : List PyData}, (∀ d ∈ ds, noL d = true) → noLs ds = true
  | [], _ => rfl
  | d :: ds, h => by
    simp only [noLs, Bool.and_eq_true]
    exact ⟨h d (List.mem_cons_self ..), noLs_of fun x hx => h x (List.mem_cons_of_mem _ hx)⟩
/-! ### things and letters -/
inductive Thing : Nat → PyData → Prop
  | num {n : Nat} {i : Int} : 0 ≤ i → i < 10 ^ 60 → Thing n (.int i)
  | tup {n : Nat} {ds : List PyData} : ds.length ≤ 2 → (∀ d ∈ ds, Thing n d) → Thing (n + 1) (.tuple ds)
theorem Thing.noL {n : Nat} {d : PyData} (h : Thing n d) : noL d = true := by
  induction h with
  | num _ _ => rfl
  | tup _ _ ih =>
    simp only [G0.noL]
    exact noLs_of ih
theorem Thing.mono {n m : Nat} {d : PyData} (h : Thing n d) (le : n ≤ m) : Thing m d := by
  induction h generalizing m with
  | num a b => exact .num a b
  | tup l _ ih =>
    cases m with
    | zero => omega
    | succ m => exact .tup l fun d hd => ih d hd (by omega)
def WordOk (z : Str) : Prop := 1 ≤ z.length ∧ z.length ≤ 8 ∧ (∀ c ∈ z.cps.toList, 97 ≤ c ∧ c ≤ 122) ∧ z ≠ "gone"
def LetterD (d : PyData) : Prop := ∃ (z : Str) (ds : List PyData), d = .tuple (.str z :: ds) ∧ WordOk z ∧ ds.length ≤ 5 ∧ ∀ x ∈ ds, Thing 3 x
theorem LetterD.noL {d : PyData} (h : LetterD d) : noL d = true := by
  obtain ⟨z, ds, rfl, _, _, hd⟩ := h
  simp only [G0.noL, noLs, Bool.true_and]
  exact noLs_of fun x hx => (hd x hx).noL
theorem Chg.mut {p D : Addr} {H0 H1 : Hp} {o : HO} (a : Chg p H0 H1) (n : H0 D = none) : Chg p H0 (upd H1 D o) := fun b u m e => by
  rw [upd_ne (ne_of_none e n)]; exact a b u m e
theorem PotAt.ne {n : Nat} {H H' : Hp} {p D : Addr} {o : HO} (h : PotAt n H p) (d : p ≠ D) (e : H' = upd H D o) : PotAt n H' p := by
  obtain ⟨xs, q, r⟩ := h
  exact ⟨xs, by rw [e, upd_ne d]; exact q, r⟩
theorem PotAt.new {n : Nat} {H : Hp} {p D : Addr} {o : HO} (h : PotAt n H p) (d : H D = none) : PotAt n (upd H D o) p := h.keep (same_upd d)
theorem PotAt.neD {n : Nat} {H : Hp} {p D : Addr} (h : PotAt n H p) (d : H D = none) : p ≠ D := by
  obtain ⟨xs, q, r⟩ := h
  exact ne_of_none q d
theorem PotAt.lst {n : Nat} {H : Hp} {p : Addr} (h : PotAt n H p) : ∃ xs, H p = some (.lst xs) := by
  obtain ⟨xs, q, r⟩ := h
  exact ⟨xs, q⟩
theorem PotAt.neT {n : Nat} {H : Hp} {p t : Addr} {xs : List V} (h : PotAt n H p) (d : H t = some (.tup xs)) : t ≠ p := by
  obtain ⟨ys, q, r⟩ := h
  exact ne_of d q (by intro z; cases z)
theorem Cal.imp {P : Program} {w : World} {K : PySem.W.Frag} {mg : Str → Option Value} {base : Heap} {x : Str} {k : Nat} {ps : List Str} {sp sp' : Sp}
    (C : Cal P w K mg base x k ps sp) (h : ∀ vs H Q E, sp' vs H Q E → sp vs H Q E) : Cal P w K mg base x k ps sp' := by
  obtain ⟨f, fd, F, r⟩ := C
  exact ⟨f, fd, ⟨fun a b c d q => F.args _ _ _ _ (h _ _ _ _ q), fun A o s H args us vs Q E fr hr he hb hv hs => F.runs A o s H args us vs Q E fr hr he hb hv (h _ _ _ _ hs)⟩, r⟩
theorem cal_no {P : Program} {w : World} {K : PySem.W.Frag} {mg : Str → Option Value} {base : Heap} {x : Str} {st : Stmt} {ps : List Str} (F : Fn K mg x st)
    (bd : ∀ (kV doc pm : Value) (an : Option Addr) (cdv ct : Value) (us : List Value), us.length = ps.length →
      bindArgs (PySem.W.fnOf x x (defArgs st) (defBody st) (defScope st) .none kV doc pm an cdv ct) ⟨us, []⟩ = pure (ps.zip us)) :
    Cal P w K mg base x 0 ps (fun _ _ _ _ => False) := by
  obtain ⟨f, fd, F, m⟩ := F
  obtain ⟨oc, od, kV, doc, pm, an, cdv, ct, osl, e, lk, c⟩ := id F.ex
  exact ⟨f, fd, ⟨fun _ _ _ _ h => h.elim, fun _ _ _ _ _ _ _ _ _ _ _ _ _ _ h => h.elim⟩, F.binds bd, m, F.kp, oc, od, osl, lk⟩
/-! ### texts of small letters -/
theorem az : ∀ j : Fin 26, (("abcdefghijklmnopqrstuvwxyz" : Str).cps.toList)[j.val]? = some (97 + j.val) := by decide +kernel
theorem az_at {d : Int} (h0 : 0 ≤ d) (h1 : d < 26) : atI ("abcdefghijklmnopqrstuvwxyz" : Str).cps.toList d = some (97 + d.toNat) := by
  have e : d = ((d.toNat : Nat) : Int) := by omega
  have q := az ⟨d.toNat, by omega⟩
  rw [e]
  exact atI_nat q
def sg (c : Nat) : Str := ⟨#[c]⟩
open TL in
theorem joinL_sg : ∀ cs : List Nat, joinL [] (cs.map fun c => [c]) = cs
  | [] => rfl
  | [c] => rfl
  | c :: d :: r => by
    show [c] ++ ([] ++ joinL [] ((d :: r).map fun c => [c])) = c :: d :: r
    rw [joinL_sg (d :: r)]
    rfl
open TL in
theorem tl_of (z : Str) : tl z = z.cps.toList := rfl
open TL in
theorem join_sg (cs : List Nat) : (Txt.join "" (cs.map sg)).cps.toList = cs := by
  rw [join_eq, ← tl_of, tl_join]
  have e : (cs.map sg).map tl = cs.map fun c => [c] := by rw [List.map_map]; rfl
  rw [e]
  exact joinL_sg cs
open TL in
theorem join_sg_len (cs : List Nat) : (Txt.join "" (cs.map sg)).length = cs.length := by
  have e := congrArg List.length (join_sg cs)
  rw [← e]
  show _ = (Txt.join "" (cs.map sg)).cps.toList.length
  simp [Str.length]
theorem sum_sg : ∀ cs : List Nat, ((cs.map sg).map (·.length)).sum = cs.length
  | [] => rfl
  | c :: r => by
    show 1 + ((r.map sg).map (·.length)).sum = r.length + 1
    rw [sum_sg r]; omega

end G0
namespace G0
open PySem PySem.Spec PyProof.Rows L2
theorem iteF' {c : Bool} {A B : Prop} (e : c = false) (h : B) : if c = true then A else B := by rw [e]; exact iteF h
theorem iteT' {c : Bool} {A B : Prop} (e : c = true) (h : A) : if c = true then A else B := by rw [e]; exact iteT h
/-! ### several lists may change -/
def ChgS (S : List Addr) (H H' : Hp) : Prop := ∀ b o, b ∉ S → H b = some o → H' b = some o
section
variable {S : List Addr} {p q : Addr} {H H' H0 H1 H2 : Hp} {o : HO}
theorem ChgS.refl : ChgS S H H := fun _ _ _ e => e
theorem ChgS.trans (a : ChgS S H H1) (b : ChgS S H1 H2) : ChgS S H H2 := fun c o n e => b c o n (a c o n e)
theorem Chg.s (h : Chg p H H') (m : p ∈ S) : ChgS S H H' := fun b o n e => h b o (fun z => n (z ▸ m)) e
theorem Same.s (h : Same H H') : ChgS S H H' := fun b o _ e => h b o e
theorem ChgS.mono {T : List Addr} (h : ChgS S H H') (m : ∀ b ∈ S, b ∈ T) : ChgS T H H' := fun b o n e => h b o (fun z => n (m b z)) e
theorem ChgS.new (a : ChgS S H H1) (n : H1 q = none) : ChgS S H (upd H1 q o) := fun b u m e => by
  rw [upd_ne (ne_of_none (a b u m e) n)]; exact a b u m e
theorem ChgS.mut (a : ChgS S H H1) (n : H q = none) : ChgS S H (upd H1 q o) := fun b u m e => by
  rw [upd_ne (ne_of_none e n)]; exact a b u m e
theorem ChgS.put (a : ChgS S H H1) (m : q ∈ S) : ChgS S H (upd H1 q o) := fun b u n e => by
  have nb : b ≠ q := fun z => n (by rw [z]; exact m)
  rw [upd_ne nb]; exact a b u n e
/-- what is new behind was new ahead -/
theorem ChgS.back (a : ChgS S H H1) (n : H1 q = none) (m : q ∉ S) : H q = none := by
  cases e : H q with
  | none => rfl
  | some u => rw [a q u m e] at n; cases n
theorem Chg.back (a : Chg p H H1) (n : H1 q = none) (m : q ≠ p) : H q = none := by
  cases e : H q with
  | none => rfl
  | some u => rw [a q u m e] at n; cases n
theorem PotAt.keepS {n : Nat} (h : PotAt n H p) (s : ChgS S H H') (m : p ∉ S) : PotAt n H' p := by
  obtain ⟨xs, e, h⟩ := h
  exact ⟨xs, s _ _ m e, h⟩
end
/-! ### lists of ints -/
section
variable {K : PySem.W.Frag} {H : Hp}
theorem dps_ints : ∀ ns : List Int, DpAll K H (ns.map V.int) (ns.map PyData.int)
  | [] => .nil
  | n :: r => .cons (.int n) (dps_ints r)
theorem dp_ints {a : Addr} {ns : List Int} (h : H a = some (.lst (ns.map V.int))) : Dp K H (.ref a) (.list (ns.map PyData.int)) := .lst (SqL.of h) (dps_ints ns)
theorem lay_ints : ∀ ns : List Int, PyData.canLayAll0 (ns.map PyData.int) = true
  | [] => by simp [PyData.canLayAll0]
  | n :: r => by simp [PyData.canLayAll0, PyData.canLay0, lay_ints r]
theorem deep_ints : ∀ ns : List Int, PyData.depthAll (ns.map PyData.int) = 0
  | [] => by simp [PyData.depthAll]
  | n :: r => by simp [PyData.depthAll, PyData.depth, deep_ints r]
theorem shaped_ints (ns : List Int) : SeqAt.shaped (.list (ns.map PyData.int)) = true := by
  show ((PyData.list (ns.map PyData.int)).canLay0 && decide ((PyData.list (ns.map PyData.int)).depth ≤ 64)) = true
  simp [PyData.canLay0, PyData.depth, lay_ints, deep_ints]
theorem flat_ints : ∀ ns : List Int, (ns.map V.int).all flatV = true
  | [] => rfl
  | n :: r => by simp [flatV, flat_ints r]
theorem inV_ints (v : Int) : ∀ ns : List Int, inV (.int v) (ns.map V.int) = decide (v ∈ ns)
  | [] => by simp [inV]
  | n :: r => by
    have ih := inV_ints v r
    unfold inV at ih ⊢
    rw [List.map_cons, List.any_cons, ih]
    show ((n == v) || decide (v ∈ r)) = decide (v ∈ n :: r)
    by_cases e : n = v
    · subst e; simp
    · have e' : ¬ v = n := fun z => e z.symm
      simp [e, e']
theorem at_ints {ns : List Int} {d : Int} (h0 : 0 ≤ d) (h1 : d < ns.length) : ∃ v, v ∈ ns ∧ atI (ns.map V.int) d = some (.int v) := by
  have hk : d.toNat < ns.length := by omega
  have ek : d = ((d.toNat : Nat) : Int) := by omega
  refine ⟨ns[d.toNat], List.getElem_mem hk, ?_⟩
  have q : atI (ns.map V.int) ((d.toNat : Nat) : Int) = some (.int ns[d.toNat]) := atI_nat (by rw [List.getElem?_map, List.getElem?_eq_getElem hk] <;> rfl)
  rw [← ek] at q
  exact q
end
/-! ### how long a repr is -/
mutual
def cost : PyData → Nat
  | .none => 4
  | .bool _ => 5
  | .int _ => 1921
  | .str x => 10 * x.length + 2
  | .list xs => 2 + costs xs
  | .tuple xs => 4 + costs xs
  | .dict _ => 0
def costs : List PyData → Nat
  | [] => 0
  | x :: xs => cost x + 2 + costs xs
end
theorem from_le : ∀ (ts : List Str) (k : Nat) (acc : Str), (textFrom k acc ts).length ≤ acc.length + (ts.map fun t => t.length + 2).sum
  | [], k, acc => by show acc.length ≤ _; simp
  | t :: r, k, acc => by
    have ih := from_le r (k + 1) (acc ++ (if k > 0 then ", " else "" : String) ++ t)
    show (textFrom (k + 1) _ r).length ≤ _
    rw [List.map_cons, List.sum_cons]
    rw [Str.length_append, Str.length_append] at ih
    have sep : (Str.ofString (if k > 0 then ", " else "")).length ≤ 2 := by split <;> decide
    omega
theorem join_le : ∀ ts : List Str, (Str.join ", " ts).length ≤ (ts.map fun t => t.length + 2).sum
  | [] => by decide
  | [x] => by show x.length ≤ _; simp
  | x :: y :: r => by
    have ih := join_le (y :: r)
    show (x ++ (", " : Str) ++ Str.join ", " (y :: r)).length ≤ _
    rw [Str.length_append, Str.length_append, List.map_cons, List.sum_cons]
    have : (", " : Str).length = 2 := by decide
    omega
theorem small_cps {x : Str} (h : PyData.strOk x = true) : ∀ c ∈ x.cps.toList, c < 16 ^ 8 := fun c hc => by
  unfold PyData.strOk at h
  rw [Array.all_eq_true_iff_forall_mem] at h
  have := of_decide_eq_true (h c (Array.mem_toList_iff.mp hc))
  omega
mutual
theorem shown_le : ∀ d : PyData, d.showable = true → d.canLay0 = true → d.shown.length ≤ cost d
  | .none, _, _ => by show (("None" : Str)).length ≤ 4; decide
  | .bool b, _, _ => by cases b <;> (simp only [PyData.shown, cost]; decide)
  | .int i, h, _ => by
    simp only [PyData.shown, cost]
    exact int_text_len_1921 (by simpa [PyData.showable] using h)
  | .str x, _, h => by
    simp only [PyData.shown, cost]
    exact StrLaws.reprText_len x (small_cps (by simpa [PyData.canLay0] using h))
  | .list xs, h, l => by
    have ih := shown_les xs (by simpa [PyData.showable] using h) (by simpa [PyData.canLay0] using l)
    simp only [PyData.shown, cost]
    show (textFrom 0 "[" (PyData.shownAll xs) ++ ("]" : Str)).length ≤ _
    have := from_le (PyData.shownAll xs) 0 "["
    have a : ("[" : Str).length = 1 := by decide
    have b : ("]" : Str).length = 1 := by decide
    rw [Str.length_append]
    omega
  | .tuple xs, h, l => by
    have ih := shown_les xs (by simpa [PyData.showable] using h) (by simpa [PyData.canLay0] using l)
    simp only [PyData.shown, cost]
    show (("(" : Str) ++ Str.join ", " (PyData.shownAll xs) ++ (Str.ofString (if (PyData.shownAll xs).length == 1 then ",)" else ")"))).length ≤ _
    have := join_le (PyData.shownAll xs)
    have a : ("(" : Str).length = 1 := by decide
    have b : (Str.ofString (if (PyData.shownAll xs).length == 1 then ",)" else ")")).length ≤ 2 := by split <;> decide
    rw [Str.length_append, Str.length_append]
    omega
  | .dict _, _, h => by simp [PyData.canLay0] at h
theorem shown_les : ∀ ds : List PyData, PyData.showableAll ds = true → PyData.canLayAll0 ds = true → ((PyData.shownAll ds).map fun t => t.length + 2).sum ≤ costs ds
  | [], _, _ => Nat.le_refl _
  | d :: ds, h, l => by
    simp only [PyData.showableAll, Bool.and_eq_true] at h
    simp only [PyData.canLayAll0, Bool.and_eq_true] at l
    have h1 := shown_le d h.1 l.1
    have h2 := shown_les ds h.2 l.2
    simp only [PyData.shownAll, costs, List.map_cons, List.sum_cons]
    omega
end

end G0
namespace G0
open PySem PySem.Spec PyProof.Rows L2
def top (i : Nat) : Stmt := PySem.Challenge.pw_soleseat_k62_whole_desk.main.body.getD i (.Pass ⟨0, 0, 0, 0⟩)
abbrev s_Desk__init : Stmt := inClass (top 1) 0
abbrev s_Desk_take_ask : Stmt := inClass (top 1) 1
abbrev s_Desk_take_given : Stmt := inClass (top 1) 2
abbrev s_Desk_take_done : Stmt := inClass (top 1) 3
abbrev s_Desk_take_gone : Stmt := inClass (top 1) 4
abbrev s_Desk__len : Stmt := inClass (top 1) 5
abbrev s_Desk_free : Stmt := inClass (top 1) 6
abbrev s_Desk_give_the_free_vote : Stmt := inClass (top 1) 7
abbrev s_law_draws : Stmt := top 3
abbrev s_law_same : Stmt := top 4
abbrev s_law_stamp : Stmt := top 5
abbrev s_law_desk : Stmt := top 6
abbrev s_law_deed : Stmt := top 7
abbrev s_law_fits : Stmt := top 8
abbrev s_law_told : Stmt := top 9
abbrev s_law_live_behind : Stmt := top 10
abbrev s_law_freed : Stmt := top 11
abbrev s_law_cells : Stmt := top 12
abbrev s_law : Stmt := top 13
section
structure BlD (mg : Str → Option Value) : Prop where
  len : mg "len" = none
  range : mg "range" = none
  tuple : mg "tuple" = none
  list : mg "list" = none
  isinstance : mg "isinstance" = none
  bool : mg "bool" = none
  sorted : mg "sorted" = none
  sum : mg "sum" = none
  int : mg "int" = none
  min : mg "min" = none
variable {P : Program} {w : World} {K : PySem.W.Frag} {mg : Str → Option Value} {base : Heap}
theorem u66 {k : Nat} {A : Around} (hr : Room k A) : A.units + 66 < cLine := by have := hr.un; omega
theorem u65 {k : Nat} {A : Around} (hr : Room k A) : A.units + 65 < cLine := by have := hr.un; omega
theorem u64 {k : Nat} {A : Around} (hr : Room k A) : A.units + 64 < cLine := by have := hr.un; omega
theorem u0 {k : Nat} {A : Around} (hr : Room k A) : A.units < cLine := by have := hr.un; omega
/-! ### _law_draws -/
def Below (ds ts : List Int) : Prop := ∀ (i : Nat) (v : Int), ds[i]? = some v → ∃ m, ts[i]? = some m ∧ 0 ≤ v ∧ v < m
theorem Below.nil {ts : List Int} : Below [] ts := fun i v h => by simp at h
theorem Below.snoc {ds ts : List Int} {v m : Int} (h : Below ds ts) (e : ts[ds.length]? = some m) (h0 : 0 ≤ v) (h1 : v < m) : Below (ds ++ [v]) ts := fun i u hu => by
  by_cases c : i < ds.length
  · exact h i u (by rw [List.getElem?_append_left c] at hu; exact hu)
  · rw [List.getElem?_append_right (by omega)] at hu
    have z : i - ds.length = 0 := by
      cases q : i - ds.length with
      | zero => rfl
      | succ n => rw [q] at hu; simp at hu
    rw [z] at hu
    simp at hu
    subst hu
    have : i = ds.length := by omega
    subst this
    exact ⟨m, e, h0, h1⟩
def spDraws : Sp := fun vs H Q _ => ∃ (t : Addr) (c : Int) (ts : List Int), vs = [.int c, .ref t] ∧ H t = some (.lst (ts.map V.int)) ∧ Builtin.Int.intBits c ≤ 1048576 ∧
  (∀ x ∈ ts, 0 < x ∧ x.natAbs < 2 ^ 250) ∧ ts.length ≤ 10 ∧ ∀ (l : Addr) (ds : List Int), H l = none → ds.length = ts.length → Below ds ts → Q (.ref l) (upd H l (.lst (ds.map V.int)))
theorem bits_le {c : Int} {n : Nat} (h : Builtin.Int.intBits c ≤ n) : c.natAbs < 2 ^ n := by
  unfold Builtin.Int.intBits at h
  by_cases z : c = 0
  · subst z; exact Nat.two_pow_pos n
  · have z' : (c == 0) = false := by simpa using z
    rw [z', if_neg (by simp)] at h
    exact Nat.lt_of_lt_of_le (Nat.lt_log2_self) (Nat.pow_le_pow_right (by decide) h)
theorem bits_add {c d : Int} {n : Nat} (h : Builtin.Int.intBits c ≤ n) (hd : d.natAbs < 2 ^ n) : Builtin.Int.intBits (c + d) ≤ n + 1 := by
  have h1 := bits_le h
  refine PyProof.Rows.intBits_le ?_
  have h2 : (2 : Nat) ^ (n + 1) = 2 ^ n + 2 ^ n := by rw [Nat.pow_succ]; omega
  rw [h2]
  have : (c + d).natAbs ≤ c.natAbs + d.natAbs := Int.natAbs_add_le c d
  omega
theorem pow_cell {c d : Int} (h : Builtin.Int.intBits c ≤ 1048576) (hd : d.natAbs < 2 ^ 64) : CPowB (c + d) 3 := by
  refine ⟨by decide, ?_⟩
  have := bits_add (d := d) h (Nat.lt_of_lt_of_le hd (Nat.pow_le_pow_right (by decide) (by decide)))
  have e : (2 : Int) ^ 27 = 134217728 := by decide
  rw [e]
  omega
theorem sc_law_draws : FnScope ["cell", "tops", "out", "rest", "k", "one"] ["cell", "tops"] (defScope s_law_draws) :=
  ⟨rfl, rfl, rfl, by decide +kernel, rfl, by decide +kernel, by decide +kernel⟩
theorem ok_draws (F : Fn K mg "_law_draws" s_law_draws) (T : BlD mg) : Cal P w K mg base "_law_draws" 1 ["cell", "tops"] spDraws := by
  refine cal_of F sc_law_draws
    (fun _ _ _ _ _ _ us hl => match us, hl with | [_, _], _ => rfl) ?_ ?_
  · rintro vs H Q E ⟨t, c, ts, rfl, _⟩
    rfl
  rintro f cdv A outer s H vs Q E free hr ⟨t, c, ts, rfl, ht, hc, pos, tl, q⟩
  refine ⟨_, (pss_cons (ps_set (i := 2) sc_law_draws.nd rfl (Or.inl rfl) (pe_lst pa_nil))
    (pss_cons (ps_set (i := 3) sc_law_draws.nd rfl (Or.inl rfl) (pe_op op_sub (pv 0) (pe_op op_pow pe_int pe_int)))
    (pss_cons (ps_for PassesOwn.never rfl (pi_range1 (by rfl) T.range (pa_cons (pe_callB call_len_seq (by rfl) T.len (by decide +kernel) (pa_cons (pv 1) pa_nil)) pa_nil)) (pg_name (i := 4) sc_law_draws.nd rfl (Or.inl rfl))
    (pss_one (ps_if (pt_cmpR op_ge (pv 3) pe_int (nomark _))
    (pss_cons (ps_expr (pe_bm PySem.F.plainAttrs_list PySem.F.slot_list_append PySem.F.type_list_append mt_append (pv 2) (pa_cons (pe_op op_mod (pv 3) (pe_ix ix_list (pv 1) (pv 4) (fun _ _ => rfl))) pa_nil)))
    (pss_one (ps_set (i := 3) sc_law_draws.nd rfl (Or.inl rfl) (pe_op op_fdivW (pv 3) (pe_ix ix_list (pv 1) (pv 4) (fun _ _ => rfl))))))
    (pss_cons (ps_set (i := 5) sc_law_draws.nd rfl (Or.inl rfl) (pe_op op_mod (pe_op op_powB (pe_op op_add (pv 0) (pe_op op_mul pe_int (pe_op op_add (pv 4) pe_int))) pe_int) pe_int))
    (pss_cons (ps_set (i := 5) sc_law_draws.nd rfl (Or.inl rfl) (pe_op op_fdivW (pe_op op_mod (pe_op op_mul (pv 5) (pe_op op_add (pv 5) pe_int)) pe_int) pe_int))
    (pss_cons (ps_if (pt_cmpR op_gt (pe_ix ix_list (pv 1) (pv 4) (fun _ _ => rfl)) (pe_op op_pow pe_int pe_int) (nomark _))
    (pss_one (ps_set (i := 5) sc_law_draws.nd rfl (Or.inl rfl) (pe_op op_pow (pv 5) pe_int)))
    pss_nil)
    (pss_one (ps_expr (pe_bm PySem.F.plainAttrs_list PySem.F.slot_list_append PySem.F.type_list_append mt_append (pv 2) (pa_cons (pe_op op_mod (pv 5) (pe_ix ix_list (pv 1) (pv 4) (fun _ _ => rfl))) pa_nil))))))))))
    (pss_one (ps_ret (pv 2)))))), ?_⟩
  refine ⟨Nat.zero_le _, fun D hD => ?_⟩
  have nDt : t ≠ D := ne_of_none ht hD
  refine ⟨_, rfl, _, _, rfl, rfl, ⟨by decide, by decide, by decide⟩, _, _, rfl, rfl, ?_⟩
  refine ⟨_, rfl, t, _, rfl, .inl (SqL.of (same_upd hD _ _ ht)), _, rfl, ?_⟩
  have hl : (ts.map V.int).length = ts.length := List.length_map _
  rw [hl]
  refine ⟨by omega, by omega, ?_⟩
  refine for_range (lo := 0) (n := ts.length) (fun i σ G => ∃ (r : Int) (k o : Option V) (ds : List Int), σ = [some (V.int c), some (V.ref t), some (V.ref D), some (V.int r), k, o] ∧
    G = upd H D (.lst (ds.map V.int)) ∧ ds.length = i ∧ Below ds ts)
    ⟨_, _, _, [], rfl, rfl, rfl, Below.nil⟩ ?_ ?_
  · rintro i σ G hi ⟨r, k, o, ds, rfl, rfl, hds, hb⟩
    have ik : i < ts.length := hi
    obtain ⟨m, hm⟩ : ∃ m, m = ts[i] := ⟨_, rfl⟩
    have tsi : ts[ds.length]? = some m := by rw [hds, hm]; exact List.getElem?_eq_getElem ik
    have at_ : atI (ts.map V.int) (0 + (i : Int)) = some (.int m) := by
      have e : (0 : Int) + (i : Int) = ((i : Nat) : Int) := by omega
      rw [e]
      exact atI_nat (by rw [List.getElem?_map, List.getElem?_eq_getElem ik, ← hm] <;> rfl)
    obtain ⟨m0, mb⟩ := pos m (by rw [hm]; exact List.getElem_mem ik)
    have hT : upd H D (.lst (ds.map V.int)) t = some (.lst (ts.map V.int)) := same_upd hD _ _ ht
    have self : upd H D (.lst (ds.map V.int)) D = some (.lst (ds.map V.int)) := upd_same
    have sm : ds.length < sizeLine := Nat.lt_of_lt_of_le (show ds.length < 100 by omega) (by decide)
    refine ⟨_, rfl, _, _, rfl, rfl, _, rfl, ?_⟩
    refine ite2 (fun c1 => ?_) (fun c1 => ?_)
    · refine ⟨_, rfl, .inl ⟨rfl, _, SqL.of self⟩, _, rfl, _, rfl, _, rfl, t, _, _, _, rfl, rfl, SqL.of hT, at_, _, _, rfl, rfl, m0, ?_⟩
      refine ⟨D, _, _, rfl, rfl, self, by rw [List.length_map]; exact sm, ?_⟩
      rw [upd_upd]
      refine ⟨_, rfl, _, rfl, _, rfl, t, _, _, _, rfl, rfl, SqL.of (same_upd hD _ _ ht), at_, _, _, rfl, rfl, wide_div m0 mb (by decide) (by decide), ?_⟩
      exact ⟨_, _, _, ds ++ [r % m], rfl, by rw [List.map_append]; rfl, by rw [List.length_append, List.length_singleton]; omega,
        hb.snoc tsi (Int.emod_nonneg _ (by omega)) (Int.emod_lt_of_pos _ m0)⟩
    · refine ⟨_, rfl, _, rfl, _, _, rfl, rfl, _, _, rfl, rfl, .inl ⟨by decide, by decide⟩, _, _, rfl, rfl, _, _, rfl, rfl, pow_cell hc ?_, _, _, rfl, rfl, (by show (0 : Int) < 2147483629; decide), ?_⟩
      · have : (7919 * (0 + (i : Int) + 1)).natAbs < 2 ^ 64 := by omega
        exact this
      generalize ho : (c + 7919 * (0 + (i : Int) + 1)) ^ (Int.toNat 3) % 2147483629 = one
      have o0 : 0 ≤ one := by rw [← ho]; exact Int.emod_nonneg _ (by decide)
      have o1 : one < 2147483629 := by rw [← ho]; exact Int.emod_lt_of_pos _ (by decide)
      refine ⟨_, rfl, _, rfl, _, _, rfl, rfl, _, _, rfl, rfl, .inl ⟨by omega, by omega⟩, _, _, rfl, rfl, (by show (0 : Int) < 2147483587; decide), _, _, rfl, rfl, wide_div (b := 10) (by decide) (by decide) (by decide) (by decide), ?_⟩
      generalize hu : one * (one + 104729) % 2147483587 / 8 = two
      have u0 : 0 ≤ two := by rw [← hu]; exact Int.ediv_nonneg (Int.emod_nonneg _ (by decide)) (by decide)
      have u1 : two < 2147483587 := by
        have := Int.emod_lt_of_pos (one * (one + 104729)) (show (0 : Int) < 2147483587 by decide)
        rw [← hu]
        omega
      refine ⟨_, rfl, _, rfl, t, _, _, _, rfl, rfl, SqL.of hT, at_, _, _, rfl, rfl, ⟨by decide, by decide, by decide⟩, _, _, rfl, rfl, _, rfl, ?_⟩
      refine ite2 (fun c2 => ?_) (fun c2 => ?_)
      · have h2 : two.natAbs < 2 ^ 64 := by omega
        refine ⟨_, rfl, _, _, rfl, rfl, ⟨by decide, by decide, (by subst hu; subst ho; exact h2)⟩, ?_⟩
        obtain ⟨six, hs⟩ : ∃ six, six = two ^ (Int.toNat 6) := ⟨_, rfl⟩
        refine ⟨_, rfl, .inl ⟨rfl, _, SqL.of self⟩, _, rfl, _, rfl, _, rfl, t, _, _, _, rfl, rfl, SqL.of hT, at_, _, _, rfl, rfl, m0, ?_⟩
        refine ⟨D, _, _, rfl, rfl, self, by rw [List.length_map]; exact sm, ?_⟩
        rw [upd_upd]
        exact ⟨_, _, _, ds ++ [six % m], rfl, by rw [List.map_append]; (subst hs; subst hu; subst ho); rfl, by rw [List.length_append, List.length_singleton]; omega,
          hb.snoc tsi (Int.emod_nonneg _ (by omega)) (Int.emod_lt_of_pos _ m0)⟩
      · skip
        refine ⟨_, rfl, .inl ⟨rfl, _, SqL.of self⟩, _, rfl, _, rfl, _, rfl, t, _, _, _, rfl, rfl, SqL.of hT, at_, _, _, rfl, rfl, m0, ?_⟩
        refine ⟨D, _, _, rfl, rfl, self, by rw [List.length_map]; exact sm, ?_⟩
        rw [upd_upd]
        exact ⟨_, _, _, ds ++ [two % m], rfl, by rw [List.map_append]; (subst hu; subst ho); rfl, by rw [List.length_append, List.length_singleton]; omega,
          hb.snoc tsi (Int.emod_nonneg _ (by omega)) (Int.emod_lt_of_pos _ m0)⟩
  · rintro σ G ⟨r, k, o, ds, rfl, rfl, hds, hb⟩
    exact ⟨_, rfl, q D ds hD hds hb⟩
end

end G0
namespace G0
open PySem PySem.Spec PyProof.Rows L2
section
variable {P : Program} {w : World} {K : PySem.W.Frag} {mg : Str → Option Value} {base : Heap}
/-! ### _law_same -/
inductive Lv : Nat → PyData → Prop
  | non {n : Nat} : Lv n .none
  | bl {n : Nat} (b : Bool) : Lv n (.bool b)
  | int {n : Nat} (i : Int) : Lv n (.int i)
  | str {n : Nat} (z : Str) : Lv n (.str z)
  | tup {n : Nat} {ds : List PyData} : ds.length < 10000 → (∀ d ∈ ds, Lv n d) → Lv (n + 1) (.tuple ds)
def spSameD (K : PySem.W.Frag) (n : Nat) : Sp := fun vs H Q _ => ∃ (x y : V), vs = [x, y] ∧
  ((∃ d, Lv n d ∧ Dp K H x d ∧ Dp K H y d) ∨
    ∃ (a b : Addr) (xs ys : List V) (ds : List PyData) (m : Nat), x = .ref a ∧ y = .ref b ∧ H a = some (.lst xs) ∧ H b = some (.lst ys) ∧ DpAll K H xs ds ∧ DpAll K H ys ds ∧ n = m + 1 ∧ ds.length < 10000 ∧ ∀ d ∈ ds, Lv m d) ∧ Q (.bl true) H
def spSameP (K : PySem.W.Frag) (n : Nat) : Sp := fun vs H Q E => ∃ m, n = m + 1 ∧ spSameD K m vs H Q E
theorem ty_sqt {H : Hp} {a : Addr} {xs : List V} (h : SqT K H a xs) : TyX K H (.ref a) (.type "tuple") := by
  rcases h with (h | ⟨o, h⟩) | ⟨o, its, n, h1, h2, _⟩
  · exact .base (.tup h)
  · exact .fTuple h
  · exact .kTuple h1 h2
theorem dps_get {H : Hp} {vs : List V} {ds : List PyData} (h : DpAll K H vs ds) : ∀ {i : Nat}, i < ds.length → ∃ v d, vs[i]? = some v ∧ ds[i]? = some d ∧ Dp K H v d := by
  match vs, ds, h with
  | [], [], _ => intro i e; simp at e
  | v :: vs, d :: ds, .cons h1 h2 =>
    intro i e
    cases i with
    | zero => exact ⟨v, d, rfl, rfl, h1⟩
    | succ i => exact dps_get h2 (by simpa using e)
theorem sc_law_same : FnScope ["found", "due", "k"] ["found", "due"] (defScope s_law_same) :=
  ⟨rfl, rfl, rfl, by decide +kernel, rfl, by decide +kernel, by decide +kernel⟩
theorem same_step {n j : Nat} (F : Fn K mg "_law_same" s_law_same) (T : BlD mg) (C_same : Cal P w K mg base "_law_same" j ["found", "due"] (spSameP K n)) :
    Cal P w K mg base "_law_same" (j + 1) ["found", "due"] (spSameD K n) := by
  refine cal_of F sc_law_same
    (fun _ _ _ _ _ _ us hl => match us, hl with | [_, _], _ => rfl) ?_ ?_
  · rintro vs H Q E ⟨x, y, rfl, _⟩
    rfl
  rintro f cdv A outer s H vs Q E free hr ⟨x, y, rfl, two, q⟩
  refine ⟨_, (pss_cons (ps_if (PW.pt (pw_or (pt_val (pe_callB call_isi (by rfl) T.isinstance (by decide +kernel) (pa_cons (pv 1) (pa_cons (pe_bltn (v := .ty "tuple") (by rfl) T.tuple (by decide +kernel) rfl) pa_nil)))) (pw_or1 (pt_val (pe_callB call_isi (by rfl) T.isinstance (by decide +kernel) (pa_cons (pv 1) (pa_cons (pe_bltn (v := .ty "list") (by rfl) T.list (by decide +kernel) rfl) pa_nil)))))))
    (pss_cons (ps_if (PW.pt (pw_or (pt_cmpR op_ne (pe_callB call_isi (by rfl) T.isinstance (by decide +kernel) (pa_cons (pv 0) (pa_cons (pe_bltn (v := .ty "tuple") (by rfl) T.tuple (by decide +kernel) rfl) pa_nil))) (pe_callB call_isi (by rfl) T.isinstance (by decide +kernel) (pa_cons (pv 1) (pa_cons (pe_bltn (v := .ty "tuple") (by rfl) T.tuple (by decide +kernel) rfl) pa_nil))) (nomark _)) (pw_or1 (pt_cmpR op_ne (pe_callB call_isi (by rfl) T.isinstance (by decide +kernel) (pa_cons (pv 0) (pa_cons (pe_bltn (v := .ty "list") (by rfl) T.list (by decide +kernel) rfl) pa_nil))) (pe_callB call_isi (by rfl) T.isinstance (by decide +kernel) (pa_cons (pv 1) (pa_cons (pe_bltn (v := .ty "list") (by rfl) T.list (by decide +kernel) rfl) pa_nil))) (nomark _)))))
    (pss_one (ps_ret pe_bl))
    pss_nil)
    (pss_cons (ps_if (pt_cmpR op_ne (pe_callB call_len_seq (by rfl) T.len (by decide +kernel) (pa_cons (pv 0) pa_nil)) (pe_callB call_len_seq (by rfl) T.len (by decide +kernel) (pa_cons (pv 1) pa_nil)) (nomark _))
    (pss_one (ps_ret pe_bl))
    pss_nil)
    (pss_cons (ps_for PassesOwn.never rfl (pi_range1 (by rfl) T.range (pa_cons (pe_callB call_len_seq (by rfl) T.len (by decide +kernel) (pa_cons (pv 1) pa_nil)) pa_nil)) (pg_name (i := 2) sc_law_same.nd rfl (Or.inl rfl))
    (pss_one (ps_if (pt_not (pt_val (pe_cal C_same free hr (pa_cons (pe_ix ix_seq (pv 0) (pv 2) (fun _ _ => rfl)) (pa_cons (pe_ix ix_seq (pv 1) (pv 2) (fun _ _ => rfl)) pa_nil)))))
    (pss_one (ps_ret pe_bl))
    pss_nil)))
    (pss_one (ps_ret pe_bl)))))
    pss_nil)
    (pss_one (ps_ret (pe_and (pe_cmpR op_eq (pe_callB call_isi (by rfl) T.isinstance (by decide +kernel) (pa_cons (pv 0) (pa_cons (pe_bltn (v := .ty "bool") (by rfl) T.bool (by decide +kernel) rfl) pa_nil))) (pe_callB call_isi (by rfl) T.isinstance (by decide +kernel) (pa_cons (pv 1) (pa_cons (pe_bltn (v := .ty "bool") (by rfl) T.bool (by decide +kernel) rfl) pa_nil))) (nomark _)) (pe_one (pe_cmpR op_eq (pv 0) (pv 1) (nomark _))))))), ?_⟩
  rcases two with ⟨d, lv, hx, hy⟩ | ⟨a, b, xs, ys, ds, m, rfl, rfl, ha, hb, hxs, hys, rfl, sm, hl⟩
  · cases lv with
    | non =>
      cases hx; cases hy
      refine ⟨_, rfl, _, .ty "tuple", _, _, _, rfl, .ty _, .base .non, kit_ty (r := false) (by decide +kernel), _, rfl, iteF' rfl ?_⟩
      refine ⟨_, rfl, _, .ty "list", _, _, _, rfl, .ty _, .base .non, kit_ty (r := false) (by decide +kernel), _, rfl, iteF' rfl ?_⟩
      refine ⟨_, rfl, _, .ty "bool", _, _, _, rfl, .ty _, .base .non, kit_ty (r := false) (by decide +kernel), _, rfl, _, .ty "bool", _, _, _, rfl, .ty _, .base .non, kit_ty (r := false) (by decide +kernel), rfl, ?_⟩
      refine ⟨_, by rw [decide_eq_true rfl], ?_⟩
      refine iteT ?_
      refine ⟨_, rfl, _, rfl, rfl, ?_⟩
      rw [decide_eq_true rfl]
      exact q
    | bl b =>
      cases hx; cases hy
      refine ⟨_, rfl, _, .ty "tuple", _, _, _, rfl, .ty _, .base (.bl _), kit_ty (r := false) (by decide +kernel), _, rfl, iteF' rfl ?_⟩
      refine ⟨_, rfl, _, .ty "list", _, _, _, rfl, .ty _, .base (.bl _), kit_ty (r := false) (by decide +kernel), _, rfl, iteF' rfl ?_⟩
      refine ⟨_, rfl, _, .ty "bool", _, _, _, rfl, .ty _, .base (.bl _), kit_ty (r := true) (by decide +kernel), _, rfl, _, .ty "bool", _, _, _, rfl, .ty _, .base (.bl _), kit_ty (r := true) (by decide +kernel), rfl, ?_⟩
      refine ⟨_, by rw [decide_eq_true rfl], ?_⟩
      refine iteT ?_
      refine ⟨_, rfl, _, rfl, rfl, ?_⟩
      rw [decide_eq_true rfl]
      exact q
    | int i =>
      cases hx; cases hy
      refine ⟨_, rfl, _, .ty "tuple", _, _, _, rfl, .ty _, .base (.int _), kit_ty (r := false) (by decide +kernel), _, rfl, iteF' rfl ?_⟩
      refine ⟨_, rfl, _, .ty "list", _, _, _, rfl, .ty _, .base (.int _), kit_ty (r := false) (by decide +kernel), _, rfl, iteF' rfl ?_⟩
      refine ⟨_, rfl, _, .ty "bool", _, _, _, rfl, .ty _, .base (.int _), kit_ty (r := false) (by decide +kernel), _, rfl, _, .ty "bool", _, _, _, rfl, .ty _, .base (.int _), kit_ty (r := false) (by decide +kernel), rfl, ?_⟩
      refine ⟨_, by rw [decide_eq_true rfl], ?_⟩
      refine iteT ?_
      refine ⟨_, rfl, _, rfl, rfl, ?_⟩
      rw [decide_eq_true rfl]
      exact q
    | str z =>
      cases hx; cases hy
      refine ⟨_, rfl, _, .ty "tuple", _, _, _, rfl, .ty _, .base (.str _), kit_ty (r := false) (by decide +kernel), _, rfl, iteF' rfl ?_⟩
      refine ⟨_, rfl, _, .ty "list", _, _, _, rfl, .ty _, .base (.str _), kit_ty (r := false) (by decide +kernel), _, rfl, iteF' rfl ?_⟩
      refine ⟨_, rfl, _, .ty "bool", _, _, _, rfl, .ty _, .base (.str _), kit_ty (r := false) (by decide +kernel), _, rfl, _, .ty "bool", _, _, _, rfl, .ty _, .base (.str _), kit_ty (r := false) (by decide +kernel), rfl, ?_⟩
      refine ⟨_, by rw [decide_eq_true rfl], ?_⟩
      refine iteT ?_
      refine ⟨_, rfl, _, rfl, rfl, ?_⟩
      rw [decide_eq_true rfl]
      exact q
    | tup sm hl =>
      cases hx with
      | tup hx hxs =>
      cases hy with
      | tup hy hys =>
      rename_i m ds a xs b ys
      have lxy : xs.length = ys.length := (dps_len hxs).trans (dps_len hys).symm
      have ly := dps_len hys
      refine ⟨_, rfl, _, .ty "tuple", _, _, _, rfl, .ty _, ty_sqt hy, kit_ty (r := true) (by decide +kernel), _, rfl, iteT' rfl ?_⟩
      refine iteT ?_
      refine ⟨_, rfl, _, .ty "tuple", _, _, _, rfl, .ty _, ty_sqt hx, kit_ty (r := true) (by decide +kernel), _, rfl, _, .ty "tuple", _, _, _, rfl, .ty _, ty_sqt hy, kit_ty (r := true) (by decide +kernel), rfl, ?_⟩
      refine ⟨_, by rw [decide_eq_true rfl], ?_⟩
      refine iteF' rfl ?_
      refine ⟨_, rfl, _, .ty "list", _, _, _, rfl, .ty _, (ty_sqt hx), kit_ty (r := false) (by decide +kernel), _, rfl, _, .ty "list", _, _, _, rfl, .ty _, (ty_sqt hy), kit_ty (r := false) (by decide +kernel), rfl, ?_⟩
      refine ⟨_, by rw [decide_eq_true rfl], ?_⟩
      refine iteF' rfl ?_
      refine ⟨_, rfl, a, xs, rfl, (.inr hx), _, rfl, b, ys, rfl, (.inr hy), rfl, ?_⟩
      refine ⟨_, by rw [lxy, decide_eq_true rfl], ?_⟩
      refine iteF' rfl ?_
      refine ⟨_, rfl, b, ys, rfl, (.inr hy), _, rfl, by omega, by omega, ?_⟩
      refine for_range (lo := 0) (n := ys.length) (fun i σ G => (∃ k : Option V, σ = [some (V.ref a), some (V.ref b), k]) ∧ G = H) ⟨⟨_, rfl⟩, rfl⟩ ?_ ?_
      · rintro i σ G hi ⟨⟨k, rfl⟩, rfl⟩
        obtain ⟨v, d, e1, e2, dv⟩ := dps_get hxs (i := i) (by omega)
        obtain ⟨u, d', e3, e4, du⟩ := dps_get hys (i := i) (by omega)
        have dd : d' = d := by rw [e2] at e4; exact (Option.some.inj e4).symm
        subst dd
        have ei : (0 : Int) + (i : Int) = ((i : Nat) : Int) := by omega
        have a1 : atI xs (0 + (i : Int)) = some v := by rw [ei]; exact atI_nat e1
        have a2 : atI ys (0 + (i : Int)) = some u := by rw [ei]; exact atI_nat e3
        refine ⟨_, rfl, _, rfl, (.inr (.inl ⟨a, xs, _, v, rfl, rfl, hx, a1, _, rfl, _, rfl, (.inr (.inl ⟨b, ys, _, u, rfl, rfl, hy, a2, ?_⟩))⟩))⟩
        refine ⟨m, rfl, v, u, rfl, .inl ⟨d', hl _ (List.mem_of_getElem? e2), dv, du⟩, ?_⟩
        refine ⟨_, rfl, ?_⟩
        refine iteF' rfl ?_
        exact ⟨⟨_, rfl⟩, rfl⟩
      · rintro σ G ⟨⟨k, rfl⟩, rfl⟩
        exact q
  · have lxy : xs.length = ys.length := (dps_len hxs).trans (dps_len hys).symm
    have ly := dps_len hys
    refine ⟨_, rfl, _, .ty "tuple", _, _, _, rfl, .ty _, .base (.lst hb), kit_ty (r := false) (by decide +kernel), _, rfl, iteF' rfl ?_⟩
    refine ⟨_, rfl, _, .ty "list", _, _, _, rfl, .ty _, .base (.lst hb), kit_ty (r := true) (by decide +kernel), _, rfl, iteT' rfl ?_⟩
    refine ⟨_, rfl, _, .ty "tuple", _, _, _, rfl, .ty _, .base (.lst ha), kit_ty (r := false) (by decide +kernel), _, rfl, _, .ty "tuple", _, _, _, rfl, .ty _, .base (.lst hb), kit_ty (r := false) (by decide +kernel), rfl, ?_⟩
    refine ⟨_, by rw [decide_eq_true rfl], ?_⟩
    refine iteF' rfl ?_
    refine ⟨_, rfl, _, .ty "list", _, _, _, rfl, .ty _, (.base (.lst ha)), kit_ty (r := true) (by decide +kernel), _, rfl, _, .ty "list", _, _, _, rfl, .ty _, (.base (.lst hb)), kit_ty (r := true) (by decide +kernel), rfl, ?_⟩
    refine ⟨_, by rw [decide_eq_true rfl], ?_⟩
    refine iteF' rfl ?_
    refine ⟨_, rfl, a, xs, rfl, (.inl (SqL.of ha)), _, rfl, b, ys, rfl, (.inl (SqL.of hb)), rfl, ?_⟩
    refine ⟨_, by rw [lxy, decide_eq_true rfl], ?_⟩
    refine iteF' rfl ?_
    refine ⟨_, rfl, b, ys, rfl, (.inl (SqL.of hb)), _, rfl, by omega, by omega, ?_⟩
    refine for_range (lo := 0) (n := ys.length) (fun i σ G => (∃ k : Option V, σ = [some (V.ref a), some (V.ref b), k]) ∧ G = H) ⟨⟨_, rfl⟩, rfl⟩ ?_ ?_
    · rintro i σ G hi ⟨⟨k, rfl⟩, rfl⟩
      obtain ⟨v, d, e1, e2, dv⟩ := dps_get hxs (i := i) (by omega)
      obtain ⟨u, d', e3, e4, du⟩ := dps_get hys (i := i) (by omega)
      have dd : d' = d := by rw [e2] at e4; exact (Option.some.inj e4).symm
      subst dd
      have ei : (0 : Int) + (i : Int) = ((i : Nat) : Int) := by omega
      have a1 : atI xs (0 + (i : Int)) = some v := by rw [ei]; exact atI_nat e1
      have a2 : atI ys (0 + (i : Int)) = some u := by rw [ei]; exact atI_nat e3
      refine ⟨_, rfl, _, rfl, (.inl ⟨a, xs, _, v, rfl, rfl, (SqL.of ha), a1, _, rfl, _, rfl, (.inl ⟨b, ys, _, u, rfl, rfl, (SqL.of hb), a2, ?_⟩)⟩)⟩
      refine ⟨m, rfl, v, u, rfl, .inl ⟨d', hl _ (List.mem_of_getElem? e2), dv, du⟩, ?_⟩
      refine ⟨_, rfl, ?_⟩
      refine iteF' rfl ?_
      exact ⟨⟨_, rfl⟩, rfl⟩
    · rintro σ G ⟨⟨k, rfl⟩, rfl⟩
      exact q
theorem ok_sames (F : Fn K mg "_law_same" s_law_same) (T : BlD mg) : ∀ n, Cal P w K mg base "_law_same" (n + 1) ["found", "due"] (spSameD K n)
  | 0 => same_step F T ((cal_no (P := P) (w := w) (base := base) F (ps := ["found", "due"]) (fun _ _ _ _ _ _ us hl => match us, hl with | [_, _], _ => rfl) ).imp (fun _ _ _ _ ⟨m, e, _⟩ => absurd e (Nat.succ_ne_zero m).symm))
  | n + 1 => same_step F T ((ok_sames F T n).imp (fun vs H Q E ⟨m, e, h⟩ => by have e' : n = m := by omega
                                                                               rw [e']; exact h))
end

end G0
namespace G0
open PySem PySem.Spec PyProof.Rows L2
/-! ### stamps -/
def StN (n : List Int) : Prop := n.length = 3 ∧ TS.Bd (10 ^ 41) n
def stD (n : List Int) : PyData := .tuple (n.map PyData.int)
inductive Sts (K : PySem.W.Frag) (H : Hp) : List V → List (List Int) → Prop
  | nil : Sts K H [] []
  | cons {x : V} {xs : List V} {n : List Int} {L : List (List Int)} : TupI K H x n → StN n → Sts K H xs L → Sts K H (x :: xs) (n :: L)
section
variable {K : PySem.W.Frag} {H H' : Hp}
theorem Sts.imp (c : ∀ a xs, SqT K H a xs → SqT K H' a xs) : ∀ {xs : List V} {L : List (List Int)}, Sts K H xs L → Sts K H' xs L
  | [], [], _ => .nil
  | _ :: _, _ :: _, .cons ⟨t, e, h⟩ s r => .cons ⟨t, e, c _ _ h⟩ s (Sts.imp c r)
theorem Sts.len : ∀ {xs : List V} {L : List (List Int)}, Sts K H xs L → xs.length = L.length
  | [], [], _ => rfl
  | _ :: _, _ :: _, .cons _ _ r => congrArg (· + 1) r.len
theorem Sts.app : ∀ {xs ys : List V} {L M : List (List Int)}, Sts K H xs L → Sts K H ys M → Sts K H (xs ++ ys) (L ++ M)
  | [], _, [], _, _, h => h
  | _ :: _, _, _ :: _, _, .cons a b r, h => .cons a b (r.app h)
theorem Sts.one {x : V} {n : List Int} (h : TupI K H x n) (s : StN n) : Sts K H [x] [n] := .cons h s .nil
theorem Sts.perm {xs ys : List V} (p : ys.Perm xs) : ∀ {L : List (List Int)}, Sts K H xs L → ∃ M, Sts K H ys M ∧ M.Perm L := by
  induction p with
  | nil => intro L h; cases h; exact ⟨[], .nil, List.Perm.refl _⟩
  | cons x _ ih =>
    intro L h
    cases h with
    | cons a b r =>
      obtain ⟨M, hm, hp⟩ := ih r
      exact ⟨_ :: M, .cons a b hm, hp.cons _⟩
  | swap x y l =>
    intro L h
    cases h with
    | cons a b r =>
      cases r with
      | cons a' b' r' => exact ⟨_, .cons a' b' (.cons a b r'), List.Perm.swap _ _ _⟩
  | trans _ _ ih1 ih2 =>
    intro L h
    obtain ⟨M, hm, hp⟩ := ih2 h
    obtain ⟨M', hm', hp'⟩ := ih1 hm
    exact ⟨M', hm', hp'.trans hp⟩
theorem Sts.tup : ∀ {xs : List V} {L : List (List Int)}, Sts K H xs L → ∀ x ∈ xs, ∃ n, n ∈ L ∧ TupI K H x n ∧ StN n
  | [], [], _, x, hx => absurd hx List.not_mem_nil
  | _ :: _, _ :: _, .cons a b r, x, hx => by
    rcases List.mem_cons.mp hx with rfl | h
    · exact ⟨_, List.mem_cons_self .., a, b⟩
    · obtain ⟨n, m, z⟩ := r.tup x h
      exact ⟨n, List.mem_cons_of_mem _ m, z⟩
theorem Sts.mem : ∀ {xs : List V} {L : List (List Int)}, Sts K H xs L → ∀ n ∈ L, ∃ x, x ∈ xs ∧ TupI K H x n ∧ StN n
  | [], [], _, n, hn => absurd hn List.not_mem_nil
  | _ :: _, _ :: _, .cons a b r, n, hn => by
    rcases List.mem_cons.mp hn with rfl | h
    · exact ⟨_, List.mem_cons_self .., a, b⟩
    · obtain ⟨x, m, z⟩ := r.mem n h
      exact ⟨x, List.mem_cons_of_mem _ m, z⟩
theorem Sts.st {xs : List V} {L : List (List Int)} (h : Sts K H xs L) : ∀ n ∈ L, StN n := fun n hn => let ⟨_, _, _, z⟩ := h.mem n hn; z
theorem Sts.up : ∀ {xs : List V} {L : List (List Int)}, Sts K H xs L → xs.Pairwise (fun x y => ∀ n m, TupI K H x n → TupI K H y m → TS.code (10 ^ 41) n ≤ TS.code (10 ^ 41) m) →
    L.Pairwise fun n m => TS.code (10 ^ 41) n ≤ TS.code (10 ^ 41) m
  | [], [], _, _ => .nil
  | _ :: _, _ :: _, .cons a b r, h => by
    rw [List.pairwise_cons] at h ⊢
    exact ⟨fun m hm => by
      obtain ⟨y, hy, ty, _⟩ := r.mem m hm
      exact h.1 y hy _ _ a ty, r.up h.2⟩
theorem dp_stamp {x : V} {n : List Int} (h : TupI K H x n) : Dp K H x (stD n) := by
  obtain ⟨t, rfl, h⟩ := h
  exact .tup h (dps_ints n)
theorem Sts.dps : ∀ {xs : List V} {L : List (List Int)}, Sts K H xs L → DpAll K H xs (L.map stD)
  | [], [], _ => .nil
  | _ :: _, _ :: _, .cons a _ r => .cons (dp_stamp a) r.dps
end
theorem code_inj {B : Int} : ∀ {n m : List Int}, n.length = m.length → TS.Bd B n → TS.Bd B m → TS.code B n = TS.code B m → n = m
  | [], [], _, _, _, _ => rfl
  | d :: r, e :: q, hl, hn, hm, h => by
    have hl' : r.length = q.length := by simpa using hl
    rcases Int.lt_trichotomy d e with c | c | c
    · have := TS.code_lt hl' hn.tail hm.tail c; omega
    · subst c
      have e2 : TS.code B r = TS.code B q := by
        have h' : d * B ^ r.length + TS.code B r = d * B ^ q.length + TS.code B q := h
        rw [hl'] at h'
        omega
      rw [code_inj hl' hn.tail hm.tail e2]
    · have := TS.code_lt hl'.symm hm.tail hn.tail c; omega
theorem same_sorted {L M : List (List Int)} (p : L.Perm M) (hL : ∀ n ∈ L, StN n) (a : L.Pairwise fun n m => TS.code (10 ^ 41) n ≤ TS.code (10 ^ 41) m)
    (b : M.Pairwise fun n m => TS.code (10 ^ 41) n ≤ TS.code (10 ^ 41) m) : L = M :=
  List.Perm.eq_of_pairwise (fun n m hn hm h1 h2 => by
    have sn := hL n hn
    have sm := hL m (p.mem_iff.mpr hm)
    exact code_inj (sn.1.trans sm.1.symm) sn.2 sm.2 (Int.le_antisymm h1 h2)) a b p
theorem eqv_ints : ∀ n : List Int, PyData.eqvAll (n.map PyData.int) (n.map PyData.int) = true
  | [] => by simp [PyData.eqvAll]
  | i :: r => by simp [PyData.eqvAll, PyData.eqv, eqv_ints r]
theorem eqv_st (n : List Int) : PyData.eqv (stD n) (stD n) = true := by simp [stD, PyData.eqv, eqv_ints n]
theorem eqv_sts : ∀ L : List (List Int), PyData.eqvAll (L.map stD) (L.map stD) = true
  | [] => by simp [PyData.eqvAll]
  | n :: L => by simp [PyData.eqvAll, eqv_st n, eqv_sts L]
theorem eqv_tups (L : List (List Int)) : PyData.eqv (.tuple (L.map stD)) (.tuple (L.map stD)) = true := by simp [PyData.eqv, eqv_sts L]
theorem lay_sts : ∀ L : List (List Int), PyData.canLayAll0 (L.map stD) = true
  | [] => by simp [PyData.canLayAll0]
  | n :: L => by simp [PyData.canLayAll0, PyData.canLay0, stD, lay_ints n, lay_sts L]
theorem deep_sts : ∀ L : List (List Int), PyData.depthAll (L.map stD) ≤ 1
  | [] => by simp [PyData.depthAll]
  | n :: L => by
    have := deep_sts L
    simp [PyData.depthAll, PyData.depth, stD, deep_ints n]
    omega
theorem shaped_st (n : List Int) : SeqAt.shaped (stD n) = true := by
  show ((stD n).canLay0 && decide ((stD n).depth ≤ 64)) = true
  simp [stD, PyData.canLay0, PyData.depth, lay_ints, deep_ints]
theorem shaped_tups (L : List (List Int)) : SeqAt.shaped (.tuple (L.map stD)) = true := by
  show ((PyData.tuple (L.map stD)).canLay0 && decide ((PyData.tuple (L.map stD)).depth ≤ 64)) = true
  have := deep_sts L
  simp [PyData.canLay0, PyData.depth, lay_sts]
  omega
theorem shaped_lsts (L : List (List Int)) : SeqAt.shaped (.list (L.map stD)) = true := by
  show ((PyData.list (L.map stD)).canLay0 && decide ((PyData.list (L.map stD)).depth ≤ 64)) = true
  have := deep_sts L
  simp [PyData.canLay0, PyData.depth, lay_sts]
  omega
theorem lv_st {n : List Int} {k : Nat} (h : n.length < 10000) : Lv (k + 1) (stD n) := .tup (by rw [List.length_map]; exact h) fun d hd => by
  obtain ⟨i, _, rfl⟩ := List.mem_map.mp hd
  exact .int i

end G0
namespace G0
open PySem PySem.Spec PyProof.Rows L2
/-! ### min(xs, default=None), xs a list of tuples of ints -/
section
variable {prog : Program} {w : World} {A : Around} {R : Result → Shared → Prop} {I : Addr} {fp wr : List Addr} {n : Nat} {P : Nat → Value → Prop} {St : Nat → Heap → Prop}
def CmpIn (prog : Program) (w : World) (A : Around) (h0 : Heap) (P : Nat → Value → Prop) (bt : Nat → Nat → Bool) : Prop :=
  ∀ i j vi vj (s : Shared) (Q : Value → Shared → Prop) (E : Value → Shared → Prop), (∀ b o, h0.get? b = some o → s.heap.get? b = some o) → P i vi → P j vj → Q (.bool (bt i j)) s → wpAny (model prog w) A (richCompare .Lt vi vj) Q E s
theorem min_loopK (W : Walks prog w A.in1 I fp wr n P St) (bt : Nat → Nat → Bool) (h0 : Heap) (kw : List (Str × Value)) (hcmp : CmpIn prog w A.in1 h0 P bt) (S : Addr) (hSf : S ∉ fp) (hw : ∀ b ∈ wr, h0.get? b = none) (hS0 : h0.get? S = none) :
    ∀ (k j : Nat) (s : Shared) (vb : Value) (c : Nat), n - (j + 1) = k → j + 1 ≤ n → St (j + 1) s.heap → P (argBest bt j) vb → (∀ b o, h0.get? b = some o → s.heap.get? b = some o) →
    s.heap.get? S = some { cls := .type "list", dict := none, data := .seq #[vb, vb] c, slots := #[] } →
    (∀ v h' tk, P (argBest bt (n - 1)) v → (∀ b o, b ∉ wr → b ≠ S → s.heap.get? b = some o → h'.get? b = some o) → R (.ok (.ret v)) { s with heap := h', toks := tk }) →
    codeAny (model prog w) A (.builtin "min.loop" ⟨[.ref I, .none, .ref S], kw⟩) R s := by
  have hSw : S ∉ wr := fun h => hSf (W.sub _ h)
  have hname : (toString "min" ++ toString ".loop" : String) = "min.loop" := by decide
  intro k
  induction k with
  | zero =>
    intro j s vb c hk hj hst hPb h0s hS hR
    have hin : j + 1 = n := by omega
    refine codeAny_builtin F.entry_min_loop ?_
    rw [Around.under_plainId F.plain_min_loop _]
    show wpAny _ A.in1 (seqItems? (.ref S) >>= _) _ _ s
    refine wpAny_bind (wpAny_seqItems hS rfl ?_)
    show wpAny _ A.in1 (tryCatch (pyNext (.ref I)) _ >>= _) _ _ s
    refine wpAny_bind (wpAny_tryCatch (W.done s _ _ (hin ▸ hst) fun h' tk hk' => ?_))
    have hS' := hk' S _ hSw hS
    show wpAny _ A.in1 (updateSeq S (fun _ => #[]) >>= _) _ _ _
    refine wpAny_bind ?_
    refine wpAny_updateSeq hS' rfl (wpAny_bind (wpAny_letGo (wpAny_pure ?_)))
    refine hR vb _ tk (by rw [← hin]; exact hPb) fun b o hbw hbS e => (Heap.get?_update_other _ _ (Ne.symm hbS)).trans (hk' b o hbw e)
  | succ k ih =>
    intro j s vb c hk hj hst hPb h0s hS hR
    have hlt : j + 1 < n := by omega
    refine codeAny_builtin F.entry_min_loop ?_
    rw [Around.under_plainId F.plain_min_loop _]
    show wpAny _ A.in1 (seqItems? (.ref S) >>= _) _ _ s
    refine wpAny_bind (wpAny_seqItems hS rfl ?_)
    show wpAny _ A.in1 (tryCatch (pyNext (.ref I)) _ >>= _) _ _ s
    refine wpAny_bind (wpAny_tryCatch (W.item (j + 1) s _ _ hlt hst fun v h' tk hP hst' hk' => ?_))
    have hS' := hk' S _ hSw hS
    have h0' : ∀ b o, h0.get? b = some o → h'.get? b = some o := fun b o e => hk' b o (fun m => by rw [hw b m] at e; cases e) (h0s b o e)
    show wpAny _ A.in1 (tryCatch (holding [v, v] (richCompare .Lt v vb >>= _)) _ >>= _) _ _ _
    refine wpAny_bind (wpAny_tryCatch (wpAny_holding (wpAny_bind (hcmp (j + 1) (argBest bt j) v vb _ _ _ h0' hP hPb ?_))))
    refine wpAny_bind (wpAny_holding (wpAny_truthy_bool ?_))
    refine wpAny_bind (wpAny_letGo (wpAny_pure ?_))
    have h0S : ∀ b o, h0.get? b = some o → S ≠ b := fun b o e z => by rw [← z, hS0] at e; cases e
    cases hb : bt (j + 1) (argBest bt j) with
    | true =>
      simp only [if_true]
      refine wpAny_bind ?_
      refine wpAny_updateSeq hS' rfl (wpAny_bind (wpAny_letGo ?_))
      rw [hname]
      refine wpAny_pure ⟨plainId_quiet F.plain_min_loop _, ih (j + 1) _ v _ (by omega) hlt (W.frame _ _ _ hst' fun b hbf o e => ?_) (by simp only [argBest, hb, if_true]; exact hP)
        (fun b o e => (Heap.get?_update_other _ _ (h0S b o e)).trans (h0' b o e)) (Heap.get?_update_self _ hS' rfl)
        fun v' h'' tk'' hP' hk'' => ?_⟩
      · exact (Heap.get?_update_other _ _ (fun h : S = b => hSf (by rw [h]; exact hbf))).trans e
      · exact hR v' h'' tk'' hP' fun b o hbw hbS e => hk'' b o hbw hbS ((Heap.get?_update_other _ _ (Ne.symm hbS)).trans (hk' b o hbw e))
    | false =>
      simp only [Bool.false_eq_true, if_false]
      refine wpAny_bind (wpAny_letGo ?_)
      rw [hname]
      refine wpAny_pure ⟨plainId_quiet F.plain_min_loop _, ih (j + 1) _ vb c (by omega) hlt hst' (by simp only [argBest, hb, Bool.false_eq_true, if_false]; exact hPb) h0' hS' fun v' h'' tk'' hP' hk'' => ?_⟩
      exact hR v' h'' tk'' hP' fun b o hbw hbS e => hk'' b o hbw hbS (hk' b o hbw e)
theorem min_firstK (W : Walks prog w A.in1 I fp wr n P St) (bt : Nat → Nat → Bool) (h0 : Heap) (kw : List (Str × Value)) (hcmp : CmpIn prog w A.in1 h0 P bt) (S : Addr) (hSf : S ∉ fp) (hw : ∀ b ∈ wr, h0.get? b = none) (hS0 : h0.get? S = none)
    (hn : 0 < n) {s : Shared} {c : Nat} (hst : St 0 s.heap) (h0s : ∀ b o, h0.get? b = some o → s.heap.get? b = some o)
    (hS : s.heap.get? S = some { cls := .type "list", dict := none, data := .seq #[] c, slots := #[] })
    (hR : ∀ v h' tk, P (argBest bt (n - 1)) v → (∀ b o, b ∉ wr → b ≠ S → s.heap.get? b = some o → h'.get? b = some o) → R (.ok (.ret v)) { s with heap := h', toks := tk }) :
    codeAny (model prog w) A (.builtin "min.loop" ⟨[.ref I, .none, .ref S], kw⟩) R s := by
  have hSw : S ∉ wr := fun h => hSf (W.sub _ h)
  have hname : (toString "min" ++ toString ".loop" : String) = "min.loop" := by decide
  refine codeAny_builtin F.entry_min_loop ?_
  rw [Around.under_plainId F.plain_min_loop _]
  show wpAny _ A.in1 (seqItems? (.ref S) >>= _) _ _ s
  refine wpAny_bind (wpAny_seqItems hS rfl ?_)
  show wpAny _ A.in1 (tryCatch (pyNext (.ref I)) _ >>= _) _ _ s
  refine wpAny_bind (wpAny_tryCatch (W.item 0 s _ _ hn hst fun v h' tk hP hst' hk' => ?_))
  have hS' := hk' S _ hSw hS
  show wpAny _ A.in1 (updateSeq S (fun _ => #[v, v]) >>= _) _ _ _
  refine wpAny_bind ?_
  refine wpAny_updateSeq hS' rfl ?_
  rw [hname]
  refine wpAny_pure ⟨plainId_quiet F.plain_min_loop _, min_loopK W bt h0 kw hcmp S hSf hw hS0 _ 0 _ v _ rfl hn (W.frame _ _ _ hst' fun b hbf o e => ?_) hP (fun b o e => ?_) (Heap.get?_update_self _ hS' rfl) fun v' h'' tk'' hP' hk'' => ?_⟩
  · exact (Heap.get?_update_other _ _ (fun h : S = b => hSf (by rw [h]; exact hbf))).trans e
  · exact (Heap.get?_update_other _ _ (fun z => by rw [← z, hS0] at e; cases e)).trans (hk' b o (fun m => by rw [hw b m] at e; cases e) (h0s b o e))
  · exact hR v' h'' tk'' hP' fun b o hbw hbS e => hk'' b o hbw hbS ((Heap.get?_update_other _ _ (Ne.symm hbS)).trans (hk' b o hbw e))
theorem min_noneK (W : Walks prog w A.in1 I fp wr n P St) (S : Addr) (hSf : S ∉ fp) {d : Value} (hn : n = 0) {s : Shared} {c : Nat} (hst : St 0 s.heap)
    (hS : s.heap.get? S = some { cls := .type "list", dict := none, data := .seq #[] c, slots := #[] })
    (hR : ∀ h' tk, (∀ b o, b ∉ wr → b ≠ S → s.heap.get? b = some o → h'.get? b = some o) → R (.ok (.ret d)) { s with heap := h', toks := tk }) :
    codeAny (model prog w) A (.builtin "min.loop" ⟨[.ref I, .none, .ref S], [("default", d)]⟩) R s := by
  have hSw : S ∉ wr := fun h => hSf (W.sub _ h)
  refine codeAny_builtin F.entry_min_loop ?_
  rw [Around.under_plainId F.plain_min_loop _]
  show wpAny _ A.in1 (seqItems? (.ref S) >>= _) _ _ s
  refine wpAny_bind (wpAny_seqItems hS rfl ?_)
  show wpAny _ A.in1 (tryCatch (pyNext (.ref I)) _ >>= _) _ _ s
  refine wpAny_bind (wpAny_tryCatch (W.done s _ _ (hn ▸ hst) fun h' tk hk' => ?_))
  refine wpAny_bind (wpAny_rule ?_)
  exact wpAny_pure (hR h' tk fun b o hbw _ e => hk' b o hbw e)
end
section
variable {prog : Program} {w : World} {A : Around} {E : Value → Shared → Prop} {s : Shared}
theorem tree_kw {id : String} {b : Builtin} {args : List Value} {kw : List (Str × Value)} {Q : Value → Shared → Prop} (hk : builtinKind id = none) (hp : plainId id = true)
    (hb : entryFor table id = some b) (ha : argsOk id ⟨args, kw⟩)
    (hc : wpAny (model prog w) A.in1 (b ⟨args, kw⟩) (fun fin s' => match fin with
      | .done f => (match (Except.ok f : Result) with | .ok (.ret v) => Q v s' | .ok _ => False | .error e => E e s')
      | .again c' => c'.quiet = true ∧ codeAny (model prog w) A c' (fun r s' => match r with | .ok (.ret v) => Q v s' | .ok _ => False | .error e => E e s') s') E s) :
    wpAny (model prog w) A (call (.builtin id) args kw) Q E s := by
  refine wpAny_call (codeAny_call_builtin hp hb ?_)
  simp only [checkBuiltinCall, hk]
  cases hsig : Manifest.signature? id with
  | none => exact wpAny_pure hc
  | some sig =>
    have ha' : Bind.checkArgs id sig ⟨args, kw⟩ = pure () := by simpa only [argsOk, hsig] using ha
    simp only [ha']
    exact wpAny_pure hc
theorem args_min_d (a d : Value) : argsOk "min" ⟨[a], [("default", d)]⟩ := by unfold argsOk; kernel_rfl
theorem min_default {a : Addr} {d : Value} {its : List Value} {bt : Nat → Nat → Bool} {Q : Value → Shared → Prop} (hh : A.handled = none) (hl : s.heap.IsList a its.toArray)
    (hcmp : CmpIn prog w A.in1 s.heap (fun i v => its.toArray[i]? = some v) bt)
    (h0 : its = [] → ∀ h' tk, (∀ b o, s.heap.get? b = some o → h'.get? b = some o) → Q d { s with heap := h', toks := tk })
    (h1 : its ≠ [] → ∀ v h' tk, its.toArray[argBest bt (its.toArray.size - 1)]? = some v → (∀ b o, s.heap.get? b = some o → h'.get? b = some o) → Q v { s with heap := h', toks := tk }) :
    wpAny (model prog w) A (call (.builtin "min") [.ref a] [("default", d)]) Q E s := by
  have hname : (toString "min" ++ toString ".loop" : String) = "min.loop" := by decide
  have hlt : a < s.heap.objs.size := by obtain ⟨o, e, _⟩ := hl; exact Heap.lt_size e
  refine tree_kw F.kind_min F.plain_min F.entry_min (args_min_d _ _) ?_
  show wpAny _ A.in1 (Builtin.Builtins.bindParams "min" ["key", "default"] 0 ⟨[], [("default", d)]⟩ >>= _) _ _ s
  refine wpAny_bind (wpAny_of_eq (show Builtin.Builtins.bindParams "min" ["key", "default"] 0 ⟨[], [("default", d)]⟩ = pure [none, some d] from by kernel_rfl) ?_)
  refine wpAny_bind (wpAny_pure ?_)
  refine wpAny_bind (wpAny_pyIter_list hl ?_)
  refine wpAny_bind (wpAny_newObj_type ?_)
  rw [hname]
  have W := Walks.list (prog := prog) (w := w) (A := A.in1) hh s.heap.objs.size a (Nat.ne_of_lt hlt) its.toArray
  have hS : (s.heap.push { cls := .type "list_iterator", data := .fields #[.ref a, .int 0 0] }).objs.size = s.heap.objs.size + 1 := Heap.size_push _ _
  have hit : (s.heap.push { cls := .type "list_iterator", data := .fields #[.ref a, .int 0 0] }).IsListIter s.heap.objs.size a 0 := ⟨_, Heap.get?_push_size _ rfl, rfl, rfl⟩
  have hst : ((s.heap.push { cls := .type "list_iterator", data := .fields #[.ref a, .int 0 0] }).push { cls := .type "list", data := .seq ([] : List Value).toArray }).IsListIter s.heap.objs.size a 0 ∧
      ((s.heap.push { cls := .type "list_iterator", data := .fields #[.ref a, .int 0 0] }).push { cls := .type "list", data := .seq ([] : List Value).toArray }).IsList a its.toArray :=
    ⟨hit.at fun o e => Heap.get?_push_of_some _ e, hl.at fun o e => Heap.get?_push_of_some _ (Heap.get?_push_of_some _ e)⟩
  have keep : ∀ b o, s.heap.get? b = some o → ((s.heap.push { cls := .type "list_iterator", data := .fields #[.ref a, .int 0 0] }).push { cls := .type "list", data := .seq ([] : List Value).toArray }).get? b = some o :=
    fun b o e => Heap.get?_push_of_some _ (Heap.get?_push_of_some _ e)
  have hSf : (s.heap.push { cls := .type "list_iterator", data := .fields #[.ref a, .int 0 0] }).objs.size ∉ [s.heap.objs.size, a] := by
    rw [hS]
    simp only [List.mem_cons, List.not_mem_nil, or_false, not_or]
    exact ⟨Nat.succ_ne_self _, Nat.ne_of_gt (Nat.lt_succ_of_lt hlt)⟩
  have none_at : ∀ b, s.heap.objs.size ≤ b → s.heap.get? b = none := fun b hb => by
    cases e : s.heap.get? b with
    | none => rfl
    | some o => exact absurd (Heap.lt_size e) (Nat.not_lt.mpr hb)
  have back : ∀ h' : Heap, (∀ b o, b ∉ [s.heap.objs.size] → b ≠ (s.heap.push { cls := .type "list_iterator", data := .fields #[.ref a, .int 0 0] }).objs.size →
      ((s.heap.push { cls := .type "list_iterator", data := .fields #[.ref a, .int 0 0] }).push { cls := .type "list", data := .seq ([] : List Value).toArray }).get? b = some o → h'.get? b = some o) →
      ∀ b o, s.heap.get? b = some o → h'.get? b = some o := fun h' hk b o e => by
    have lb := Heap.lt_size e
    exact hk b o (by simp only [List.mem_cons, List.not_mem_nil, or_false]; exact Nat.ne_of_lt lb) (by rw [hS]; exact Nat.ne_of_lt (Nat.lt_succ_of_lt lb)) (keep b o e)
  by_cases he : its = []
  · exact wpAny_pure ⟨plainId_quiet F.plain_min_loop _, min_noneK W _ hSf (by rw [he]; rfl) hst (Heap.get?_push_size _ rfl) fun h' tk hk => h0 he _ _ (back h' hk)⟩
  · refine wpAny_pure ⟨plainId_quiet F.plain_min_loop _, min_firstK W bt s.heap _ hcmp _ hSf (fun b hb => ?_) (none_at _ (by rw [hS]; omega)) ?_ hst keep (Heap.get?_push_size _ rfl) fun v h' tk hP hk => h1 he v _ _ hP (back h' hk)⟩
    · rw [List.mem_singleton.mp hb]; exact none_at _ (Nat.le_refl _)
    · rw [List.size_toArray]; exact List.length_pos_iff.mpr he
theorem argBest_le {f : Nat → Int} : ∀ k, argBest (fun i j => decide (f i < f j)) k ≤ k ∧ ∀ j, j ≤ k → f (argBest (fun i j => decide (f i < f j)) k) ≤ f j
  | 0 => ⟨Nat.le_refl _, fun j hj => by rw [Nat.le_zero.mp hj]; exact Int.le_refl _⟩
  | k + 1 => by
    obtain ⟨h1, h2⟩ := argBest_le (f := f) k
    by_cases c : f (k + 1) < f (argBest (fun i j => decide (f i < f j)) k)
    · have e : argBest (fun i j => decide (f i < f j)) (k + 1) = k + 1 := by simp [argBest, c]
      rw [e]
      refine ⟨Nat.le_refl _, fun j hj => ?_⟩
      by_cases z : j = k + 1
      · rw [z]; exact Int.le_refl _
      · have := h2 j (by omega); omega
    · have e : argBest (fun i j => decide (f i < f j)) (k + 1) = argBest (fun i j => decide (f i < f j)) k := by simp [argBest, c]
      rw [e]
      refine ⟨Nat.le_succ_of_le h1, fun j hj => ?_⟩
      by_cases z : j = k + 1
      · rw [z]; omega
      · exact h2 j (by omega)
theorem lex_code {B : Int} : ∀ {n m : List Int}, n.length = m.length → TS.Bd B n → TS.Bd B m → HT.lexLt n m = decide (TS.code B n < TS.code B m)
  | [], [], _, _, _ => by simp [HT.lexLt, TS.code]
  | d :: r, e :: q, hl, hn, hm => by
    have hl' : r.length = q.length := by simpa using hl
    show (if d = e then HT.lexLt r q else decide (d < e)) = _
    by_cases c : d = e
    · subst c
      rw [if_pos rfl, lex_code hl' hn.tail hm.tail]
      exact decide_eq_decide.mpr (TS.code_same hl').symm
    · rw [if_neg c]
      refine decide_eq_decide.mpr ⟨fun x => TS.code_lt hl' hn.tail hm.tail x, fun x => ?_⟩
      rcases Int.lt_trichotomy d e with y | y | y
      · exact y
      · exact absurd y c
      · have := TS.code_lt hl'.symm hm.tail hn.tail y
        omega
end
def rMinD (K : PySem.W.Frag) : List V → List V → Hp → VK → Prop := fun xs zs H Q => ∃ (a : Addr) (vs : List V) (L : List (List Int)), xs = [.ref a] ∧ zs = [.non] ∧ SqL K H a vs ∧ Sts K H vs L ∧ (L = [] → Q .non H) ∧
  ∀ x n, x ∈ vs → n ∈ L → TupI K H x n → (∀ m ∈ L, TS.code (10 ^ 41) n ≤ TS.code (10 ^ 41) m) → Q x H
theorem Sts.at {K : PySem.W.Frag} {H : Hp} : ∀ {xs : List V} {L : List (List Int)}, Sts K H xs L → ∀ {i : Nat} {x : V}, xs[i]? = some x → ∃ n, L[i]? = some n ∧ TupI K H x n ∧ StN n
  | [], [], _, i, x, e => by simp at e
  | v :: xs, n :: L, .cons a b r, i, x, e => by
    cases i with
    | zero => simp at e; subst e; exact ⟨n, rfl, a, b⟩
    | succ i => exact r.at (by simpa using e)
theorem vals_at : ∀ {xs : List V} {us : List Value}, Vals xs us → ∀ {i : Nat} {u : Value}, us[i]? = some u → ∃ x, xs[i]? = some x ∧ RelV x u
  | [], [], .nil, i, u, e => by simp at e
  | x :: xs, u :: us, .cons r t, i, w, e => by
    cases i with
    | zero => simp at e; subst e; exact ⟨x, rfl, r⟩
    | succ i => exact vals_at t (by simpa using e)
theorem cr_minD {X : Cx} (hc : X.calm = true) (hu : X.A.units + 64 < cLine) : CallRK X (.builtin "min") ["default"] (rMinD X.K) := by
  intro pins s σ H xs zs us ws Q I r rz h
  obtain ⟨a, vs, L, rfl, rfl, hs, hL, q0, q1⟩ := h
  obtain ⟨its, rv, hl, _⟩ := I.list hs
  rw [Vals.ref1 r]
  obtain ⟨z, rfl, ez⟩ := vals1 rz
  obtain rfl : z = Value.none := ez
  have lv := rv.length
  have lL := hL.len
  have at_ : ∀ i v, its.toArray[i]? = some v → ∃ x n, vs[i]? = some x ∧ RelV x v ∧ L[i]? = some n ∧ TupI X.K H x n ∧ StN n := fun i v e => by
    obtain ⟨x, ex, rx⟩ := vals_at rv (i := i) (u := v) (by rw [List.getElem?_toArray] at e; exact e)
    obtain ⟨n, en, tn, sn⟩ := hL.at ex
    exact ⟨x, n, ex, rx, en, tn, sn⟩
  have getL : ∀ {i : Nat} {n : List Int}, L[i]? = some n → L.getD i [] = n := fun e => by rw [List.getD_eq_getElem?_getD, e]; rfl
  show wpAny _ _ (call (.builtin "min") [.ref a] [("default", Value.none)]) _ _ s
  refine min_default (bt := fun i j => decide (TS.code (10 ^ 41) (L.getD i []) < TS.code (10 ^ 41) (L.getD j []))) (I.ok.hd hc) hl.isList (fun i j vi vj s' Q' E' keep hi hj hQ => ?_) (fun e h' tk hk => ?_) (fun e v h' tk hv hk => ?_)
  · obtain ⟨xi, ni, e1, r1, e2, ⟨ti, f1, t1⟩, s1⟩ := at_ i vi hi
    obtain ⟨xj, nj, e3, r3, e4, ⟨tj, f3, t3⟩, s3⟩ := at_ j vj hj
    subst f1; subst f3
    obtain rfl : vi = Value.ref ti := r1
    obtain rfl : vj = Value.ref tj := r3
    have hQ : Q' (Value.bool (decide (TS.code (10 ^ 41) (L.getD i []) < TS.code (10 ^ 41) (L.getD j [])))) s' := hQ
    rw [getL e2, getL e4, ← lex_code (s1.1.trans s3.1.symm) s1.2 s3.2] at hQ
    obtain ⟨a1, y1, g1, ⟨o1, k1, c1, m1⟩, i1⟩ := tupI_raw I t1
    obtain ⟨a3, y3, g3, ⟨o3, k3, c3, m3⟩, i3⟩ := tupI_raw I t3
    cases g1; cases g3
    exact HT.lt_tupInts ⟨o1, keep _ _ k1, c1, m1⟩ ⟨o3, keep _ _ k3, c3, m3⟩ i1 i3 (by show X.A.units + 1 < cLine; omega) hQ
  · have l0 : L = [] := List.eq_nil_of_length_eq_zero (by rw [← lL, lv, e]; rfl)
    exact ⟨.non, H, I.kept hk, rfl, q0 l0⟩
  · obtain ⟨x, n, ex, rx, en, tn, sn⟩ := at_ _ v hv
    refine ⟨x, H, I.kept hk, rx, q1 x n (List.mem_of_getElem? ex) (List.mem_of_getElem? en) tn fun m hm => ?_⟩
    obtain ⟨b1, b2⟩ := argBest_le (f := fun i => TS.code (10 ^ 41) (L.getD i [])) (its.toArray.size - 1)
    obtain ⟨j, hj, ej⟩ := List.getElem_of_mem hm
    have := b2 j (by rw [List.size_toArray]; omega)
    have gm : L.getD j [] = m := getL (by rw [List.getElem?_eq_getElem hj, ej])
    have gn : L.getD (argBest (fun i j => decide (TS.code (10 ^ 41) (L.getD i []) < TS.code (10 ^ 41) (L.getD j []))) (its.toArray.size - 1)) [] = n := getL en
    rw [gm, gn] at this
    exact this

end G0
namespace G0
open PySem PySem.Spec PyProof.Rows L2
/-! ### Desk -/
def deskF (h q : V) (b : Bool) : List (Str × V) := [("holder", h), ("queue", q), ("called", .bl b)]
theorem n_qh : ¬ (("queue" : Str) = "holder") := by decide +kernel
theorem n_ch : ¬ (("called" : Str) = "holder") := by decide +kernel
theorem n_cq : ¬ (("called" : Str) = "queue") := by decide +kernel
theorem deskF_holder (h q : V) (b : Bool) : (deskF h q b).lookup ("holder" : Str) = some h := by unfold deskF; rw [List.lookup_cons_self]
theorem deskF_queue (h q : V) (b : Bool) : (deskF h q b).lookup ("queue" : Str) = some q := by
  unfold deskF; rw [List.lookup_cons, beq_false_of_ne n_qh]; simp only []; rw [List.lookup_cons_self]
theorem deskF_called (h q : V) (b : Bool) : (deskF h q b).lookup ("called" : Str) = some (.bl b) := by
  unfold deskF; rw [List.lookup_cons, beq_false_of_ne n_ch]; simp only []; rw [List.lookup_cons, beq_false_of_ne n_cq]; simp only []; rw [List.lookup_cons_self]
theorem deskF_no (h q : V) (b : Bool) {x : Str} (h1 : x ≠ ("holder" : Str)) (h2 : x ≠ ("queue" : Str)) (h3 : x ≠ ("called" : Str)) : (deskF h q b).lookup x = none := by
  unfold deskF
  rw [List.lookup_cons, beq_false_of_ne h1]; simp only []
  rw [List.lookup_cons, beq_false_of_ne h2]; simp only []
  rw [List.lookup_cons, beq_false_of_ne h3]; rfl
theorem deskF_putH (h q u : V) (b : Bool) : putF "holder" u (deskF h q b) = deskF u q b := by
  unfold deskF
  show (if ("holder" : Str) = "holder" then _ else _) = _
  rw [if_pos rfl]
theorem deskF_putQ (h q u : V) (b : Bool) : putF "queue" u (deskF h q b) = deskF h u b := by
  unfold deskF
  show (if ("holder" : Str) = "queue" then _ else (("holder" : Str), h) :: (if ("queue" : Str) = "queue" then _ else _)) = _
  rw [if_neg (fun z => n_qh z.symm), if_pos rfl]
theorem deskF_putC (h q : V) (b c : Bool) : putF "called" (.bl c) (deskF h q b) = deskF h q c := by
  unfold deskF
  show (if ("holder" : Str) = "called" then _ else (("holder" : Str), h) :: (if ("queue" : Str) = "called" then _ else (("queue" : Str), q) :: (if ("called" : Str) = "called" then _ else _))) = _
  rw [if_neg (fun z => n_ch z.symm), if_neg (fun z => n_cq z.symm), if_pos rfl]
theorem deskF_made (q : V) : putF "called" (.bl false) (putF "queue" q (putF "holder" .non [])) = deskF .non q false := by
  show putF "called" (.bl false) (if ("holder" : Str) = "queue" then _ else (("holder" : Str), V.non) :: putF "queue" q []) = _
  rw [if_neg (fun z => n_qh z.symm)]
  show (if ("holder" : Str) = "called" then _ else (("holder" : Str), V.non) :: (if ("queue" : Str) = "called" then _ else (("queue" : Str), q) :: putF "called" (.bl false) [])) = _
  rw [if_neg (fun z => n_ch z.symm), if_neg (fun z => n_cq z.symm)]
  rfl
structure DeskT (K : PySem.W.Frag) (mg : Str → Option Value) (C : Addr) : Prop where
  cl : Cls K C
  nH : NoAttr K C "holder"
  nQ : NoAttr K C "queue"
  nC : NoAttr K C "called"
  mgC : mg "Desk" = some (.ref C)
section
variable {P : Program} {w : World} {K : PySem.W.Frag} {mg : Str → Option Value} {base : Heap} {C f : Addr} {fd : FuncData}
/-- what a tuple holds stays where an object alone changes -/
theorem sqt_chgI {H H' : Hp} {p D dx : Addr} {fs : List (Str × V)} (hp : H p = some (.ins D dx fs)) (c : Chg p H H') {a : Addr} {xs : List V} (h : SqT K H a xs) : SqT K H' a xs := by
  rcases h with (h | ⟨o, h⟩) | h
  · exact .inl (.inl (c _ _ (ne_of h hp (by intro z; cases z)) h))
  · exact .inl (.inr ⟨o, c _ _ (ne_of h hp (by intro z; cases z)) h⟩)
  · exact .inr h
/-- any slice of a tuple -/
theorem sl_anyk {H : Hp} {a : Addr} {xs : List V} {lo hi : Option Int} {Q : VK} (h : SqT K H a xs) (q : ∀ r H', Same H H' → SqT K H' r (cutV xs lo hi) → Q (.ref r) H') : rSlA K (.ref a) lo hi H Q := by
  refine ⟨a, xs, rfl, h, fun ⟨e1, e2⟩ => ?_, fun _ r hr => q r _ (same_upd hr) (SqT.of upd_same)⟩
  refine q a H (Same.refl H) ?_
  unfold cutV
  rw [e1, e2, List.drop_zero, Nat.sub_zero, List.take_length]
  exact h
theorem sl_nonek {σ : L2.St} {H : Hp} {a : Addr} {xs : List V} {lo : Option Int} {Q : VK} (h : SqT K H a xs) (q : ∀ r H', Same H H' → SqT K H' r (cutV xs lo none) → Q (.ref r) H') :
    tNoPart σ H fun u H3 => rSlA K (.ref a) lo u H3 Q := sl_anyk h q
/-- any two tuples together -/
theorem cat_anyk {H : Hp} {a b : Addr} {xs ys : List V} {Q : VK} (h1 : SqT K H a xs) (h2 : SqT K H b ys) (l : xs.length + ys.length ≤ 10000)
    (q : ∀ r H', Same H H' → SqT K H' r (xs ++ ys) → Q (.ref r) H') : rCatA K (.ref a) (.ref b) H Q := by
  refine ⟨a, b, xs, ys, rfl, rfl, h1, h2, Nat.le_trans l (by decide), fun e => ?_, fun _ e => ?_, fun _ _ r hr => q r _ (same_upd hr) (SqT.of upd_same)⟩
  · subst e
    exact q b H (Same.refl H) h2
  · subst e
    exact q a H (Same.refl H) (by rw [List.append_nil]; exact h1)
theorem cut1 (x : V) (r : List V) : cutV (x :: r) (some 1) none = r := by
  unfold cutV HT.sIx
  simp
def spDInit (C : Addr) : Sp := fun vs H Q _ => ∃ (p dx : Addr), vs = [.ref p] ∧ H p = some (.ins C dx []) ∧
  ∀ q H', H q = none → H' q = some (.tup []) → H' p = some (.ins C dx (deskF .non (.ref q) false)) → Chg p H H' → Q .non H'
theorem sc_Desk__init : FnScope ["self"] ["self"] (defScope s_Desk__init) :=
  ⟨rfl, rfl, rfl, by decide +kernel, rfl, by decide +kernel, by decide +kernel⟩
theorem ok_dinit (F : Fun K "__init__" "Desk.__init__" s_Desk__init f fd) (S : DeskT K mg C) : FnOk P w K mg base CX0 1 f fd ["self"] (spDInit C) := by
  refine F.ok sc_Desk__init (fun vs H Q E h => ?_) (fun cdv A outer s H vs Q E hr h => ?_)
  · obtain ⟨p, dx, rfl, _⟩ := h
    rfl
  obtain ⟨p, dx, rfl, hp, q⟩ := h
  refine ⟨_, (pss_cons (ps_fld (pv 0) pe_non rfl)
    (pss_cons (ps_fld (pv 0) (pe_tup pa_nil) rfl)
    (pss_one (ps_fld (pv 0) pe_bl rfl)))), ?_⟩
  refine ⟨_, rfl, p, C, dx, _, rfl, hp, S.cl, S.nH, (by show 0 < 1000; decide), ?_⟩
  refine ⟨Nat.zero_le _, fun e he => ?_⟩
  have pe : p ≠ e := by intro z; rw [z, upd_same] at he; cases he
  have he0 : H e = none := by rw [upd_ne pe.symm] at he; exact he
  refine ⟨_, rfl, p, C, dx, _, rfl, by rw [upd_ne pe, upd_same], S.cl, S.nQ, (by show 1 < 1000; decide), ?_⟩
  refine ⟨_, rfl, p, C, dx, _, rfl, upd_same, S.cl, S.nC, (by show 2 < 1000; decide), ?_⟩
  rw [deskF_made]
  refine q e _ he0 ?_ upd_same ?_
  · rw [upd_ne pe.symm, upd_ne pe.symm, upd_same]
  · intro b o n h
    rw [upd_ne n, upd_ne n, upd_ne (ne_of_none h he0), upd_ne n]
    exact h
def spDLen (C : Addr) : Sp := fun vs H Q _ => ∃ (p dx q : Addr) (h : V) (b : Bool) (xs : List V), vs = [.ref p] ∧ H p = some (.ins C dx (deskF h (.ref q) b)) ∧ SqT K H q xs ∧ Q (.int xs.length) H
theorem sc_Desk__len : FnScope ["self"] ["self"] (defScope s_Desk__len) :=
  ⟨rfl, rfl, rfl, by decide +kernel, rfl, by decide +kernel, by decide +kernel⟩
theorem ok_dlen (F : Fun K "__len__" "Desk.__len__" s_Desk__len f fd) (T : BlD mg) (S : DeskT K mg C) : FnOk P w K mg base CX0 1 f fd ["self"] (spDLen (K := K) C) := by
  refine F.ok sc_Desk__len (fun vs H Q E h => ?_) (fun cdv A outer s H vs Q E hr h => ?_)
  · obtain ⟨p, dx, q, h, b, xs, rfl, _⟩ := h
    rfl
  obtain ⟨p, dx, qa, h, b, xs, rfl, hp, hq, q⟩ := h
  refine ⟨_, (pss_one (ps_ret (pe_callB call_len_seq (by rfl) T.len (by decide +kernel) (pa_cons (pe_fld (pv 0) (by rfl)) pa_nil)))), ?_⟩
  exact ⟨_, rfl, p, C, dx, _, _, rfl, hp, S.cl, S.nQ, deskF_queue _ _ _, qa, xs, rfl, .inr hq, q⟩
/-- the free vote -/
def spGive (K : PySem.W.Frag) (C : Addr) : Sp := fun vs H Q _ => ∃ (p dx qa : Addr) (h : V) (b : Bool) (xs : List V), vs = [.ref p] ∧ H p = some (.ins C dx (deskF h (.ref qa) b)) ∧ SqT K H qa xs ∧
  ((((∃ a, h = .ref a) ∨ (h = .non ∧ xs = [])) ∧ ∀ l, H l = none → Q (.ref l) (upd H l (.lst []))) ∨
    (h = .non ∧ ∃ x r, xs = x :: r ∧ xs.length < 10000 ∧ ∀ l t q' H', H l = none → H' l = some (.lst [.ref t]) → H' t = some (.tup [.str "vote", x]) → SqT K H' q' r → H' p = some (.ins C dx (deskF x (.ref q') false)) →
      Chg p H H' → Q (.ref l) H'))
theorem sc_Desk_give_the_free_vote : FnScope ["self"] ["self"] (defScope s_Desk_give_the_free_vote) :=
  ⟨rfl, rfl, rfl, by decide +kernel, rfl, by decide +kernel, by decide +kernel⟩
theorem ok_give (F : Fun K "_give_the_free_vote" "Desk._give_the_free_vote" s_Desk_give_the_free_vote f fd) (T : BlD mg) (S : DeskT K mg C) : FnOk P w K mg base CX0 1 f fd ["self"] (spGive K C) := by
  refine F.ok sc_Desk_give_the_free_vote (fun vs H Q E h => ?_) (fun cdv A outer s H vs Q E hr h => ?_)
  · obtain ⟨p, dx, qa, h, b, xs, rfl, _⟩ := h
    rfl
  obtain ⟨p, dx, qa, h, b, xs, rfl, hp, hq, two⟩ := h
  refine ⟨_, (pss_cons (ps_if (PW.pt (pw_or (pt_cmpR op_notN (pe_fld (pv 0) (by rfl)) pe_non (nomark _)) (pw_or1 (pt_cmpR op_eq (pe_callB call_len_seq (by rfl) T.len (by decide +kernel) (pa_cons (pe_fld (pv 0) (by rfl)) pa_nil)) pe_int (nomark _)))))
    (pss_one (ps_ret (pe_lst pa_nil)))
    pss_nil)
    (pss_cons (ps_fld (pv 0) (pe_ix ix_tup (pe_fld (pv 0) (by rfl)) pe_int (fun _ _ => rfl)) rfl)
    (pss_cons (ps_fld (pv 0) (pe_slice sl_tupA (pe_fld (pv 0) (by rfl)) (po_some pe_int) po_none) rfl)
    (pss_cons (ps_fld (pv 0) pe_bl rfl)
    (pss_one (ps_ret (pe_lst (pa_cons (pe_tup (pa_cons pe_str (pa_cons (pe_fld (pv 0) (by rfl)) pa_nil))) pa_nil)))))))), ?_⟩
  refine ⟨_, rfl, p, C, dx, _, _, rfl, hp, S.cl, S.nH, deskF_holder _ _ _, ?_⟩
  rcases two with ⟨hh, q⟩ | ⟨rfl, x, r, rfl, sm, q⟩
  · rcases hh with ⟨a, rfl⟩ | ⟨rfl, rfl⟩
    · refine ⟨rfl, _, rfl, iteT' (by simp) ?_⟩
      refine iteT ?_
      exact ⟨Nat.zero_le _, q⟩
    · refine ⟨rfl, _, rfl, iteF' (by simp) ?_⟩
      refine ⟨_, rfl, p, C, dx, _, _, rfl, hp, S.cl, S.nQ, deskF_queue _ _ _, qa, [], rfl, .inr hq, rfl, _, rfl, ?_⟩
      refine iteT' (by simp) ?_
      exact ⟨Nat.zero_le _, q⟩
  · refine ⟨rfl, _, rfl, iteF' (by simp) ?_⟩
    refine ⟨_, rfl, p, C, dx, _, _, rfl, hp, S.cl, S.nQ, deskF_queue _ _ _, qa, _, rfl, .inr hq, rfl, _, rfl, ?_⟩
    refine iteF' (by simp; omega) ?_
    refine ⟨_, rfl, p, C, dx, _, _, rfl, hp, S.cl, S.nQ, deskF_queue _ _ _, qa, _, _, _, rfl, rfl, hq, (show atI (x :: r) ((0 : Nat) : Int) = some x from atI_nat rfl), _, rfl, p, C, dx, _, rfl, hp, S.cl, S.nH, (by show 3 < 1000; decide), ?_⟩
    rw [deskF_putH]
    have c1 : Chg p H (upd H p (.ins C dx (deskF x (.ref qa) b))) := Chg.self
    have hq1 := sqt_chgI hp c1 hq
    refine ⟨_, rfl, p, C, dx, _, _, rfl, upd_same, S.cl, S.nQ, deskF_queue _ _ _, _, rfl, sl_nonek hq1 fun q' G s2 hq2 => ?_⟩
    rw [cut1] at hq2
    have hp2 := s2 _ _ (upd_same (H := H) (a := p))
    refine ⟨_, rfl, p, C, dx, _, rfl, hp2, S.cl, S.nQ, (by show 3 < 1000; decide), ?_⟩
    rw [deskF_putQ]
    refine ⟨_, rfl, p, C, dx, _, rfl, upd_same, S.cl, S.nC, (by show 3 < 1000; decide), ?_⟩
    rw [deskF_putC, upd_upd]
    refine ⟨_, rfl, p, C, dx, _, _, rfl, upd_same, S.cl, S.nH, deskF_holder _ _ _, by show 2 ≤ sizeLine; decide, ?_⟩
    intro t ht
    refine ⟨by show 1 ≤ sizeLine; decide, ?_⟩
    intro l hl
    have hp3 : upd G p (.ins C dx (deskF x (.ref q') false)) p = some (.ins C dx (deskF x (.ref q') false)) := upd_same
    have cG : Chg p H (upd G p (.ins C dx (deskF x (.ref q') false))) := fun b o n e => by rw [upd_ne n]; exact s2 _ _ (c1 _ _ n e)
    have hq3 := sqt_chgI hp2 (Chg.self (o := .ins C dx (deskF x (.ref q') false))) hq2
    have cT := cG.new (o := .tup [.str "vote", x]) ht
    have pl : l ≠ p := by intro z; rw [z, (same_upd ht) _ _ hp3] at hl; cases hl
    refine q l t q' _ (cT.back hl pl) upd_same ((same_upd hl) _ _ upd_same) (sqt_same ((same_upd ht).trans (same_upd hl)) hq3) (((same_upd ht).trans (same_upd hl)) _ _ hp3) (cT.new hl)
end

end G0
namespace G0
open PySem PySem.Spec PyProof.Rows L2
section
variable {P : Program} {w : World} {K : PySem.W.Frag} {mg : Str → Option Value} {base : Heap} {C f : Addr} {fd : FuncData}
def Up (M : List (List Int)) : Prop := M.Pairwise fun n m => TS.code (10 ^ 41) n ≤ TS.code (10 ^ 41) m
/-- a method of the class at C -/
def Me (P : Program) (w : World) (K : PySem.W.Frag) (mg : Str → Option Value) (base : Heap) (C : Addr) (x : Str) (k : Nat) (ps : List Str) (sp : Sp) : Prop :=
  ∃ f fd, FnOk P w K mg base CX0 k f fd ps sp ∧ Binds K fd ps [] ∧ Meth K C x f
/-! ### take_ask -/
def spAsk (K : PySem.W.Frag) (C : Addr) : Sp := fun vs H Q _ => ∃ (p dx qa st : Addr) (h : V) (b : Bool) (xs : List V) (L : List (List Int)) (n : List Int), vs = [.ref p, .ref st] ∧
  H p = some (.ins C dx (deskF h (.ref qa) b)) ∧ SqT K H qa xs ∧ Sts K H xs L ∧ TupI K H (.ref st) n ∧ StN n ∧ L.length < 63 ∧
  ((∃ hh m, h = .ref hh ∧ TupI K H (.ref hh) m ∧ StN m ∧ ∀ l q' H' ys M, H l = none → SqT K H' q' ys → Sts K H' ys M → M.Perm (L ++ [n]) → Up M → Chg p H H' →
      (if (HT.lexLt n m && !b) = true then (∃ t, H' l = some (.lst [.ref t]) ∧ H' t = some (.tup [.str "back", .ref hh]) ∧ H' p = some (.ins C dx (deskF (.ref hh) (.ref q') true)))
        else (H' l = some (.lst []) ∧ H' p = some (.ins C dx (deskF (.ref hh) (.ref q') b)))) → Q (.ref l) H') ∨
    (h = .non ∧ xs = [] ∧ ∀ l t q' H', H l = none → H' l = some (.lst [.ref t]) → H' t = some (.tup [.str "vote", .ref st]) → SqT K H' q' [] → H' p = some (.ins C dx (deskF (.ref st) (.ref q') false)) →
      Chg p H H' → Q (.ref l) H'))
theorem sc_Desk_take_ask : FnScope ["self", "stamp"] ["self", "stamp"] (defScope s_Desk_take_ask) :=
  ⟨rfl, rfl, rfl, by decide +kernel, rfl, by decide +kernel, by decide +kernel⟩
theorem ok_ask (F : Fun K "take_ask" "Desk.take_ask" s_Desk_take_ask f fd) (T : BlD mg) (S : DeskT K mg C) (MV : Me P w K mg base C "_give_the_free_vote" 1 ["self"] (spGive K C)) :
    FnOk P w K mg base CX0 2 f fd ["self", "stamp"] (spAsk K C) := by
  obtain ⟨fV, fdV, GV, bV, mV⟩ := MV
  refine F.ok sc_Desk_take_ask (fun vs H Q E h => ?_) (fun cdv A outer s H vs Q E hr h => ?_)
  · obtain ⟨p, dx, qa, st, h, b, xs, L, n, rfl, _⟩ := h
    rfl
  obtain ⟨p, dx, qa, st, h, b, xs, L, n, rfl, hp, hq, hs, hn, sn, len, two⟩ := h
  refine ⟨_, (pss_cons (ps_fld (pv 0) (pe_callTy call_tuple_of (by rfl) T.tuple (by decide +kernel) (pa_cons (pe_callB (cr_sortTT (d := 3) (B := 10 ^ 41) (by decide)) (by rfl) T.sorted (by decide +kernel) (pa_cons (pe_op op_catA (pe_fld (pv 0) (by rfl)) (pe_tup (pa_cons (pv 1) pa_nil))) pa_nil)) pa_nil)) rfl)
    (pss_cons (ps_if (PW.pt (pw_and (pt_cmpR op_notN (pe_fld (pv 0) (by rfl)) pe_non (nomark _)) (pw_and (pt_cmpR (op_ltT (u0 hr)) (pv 1) (pe_fld (pv 0) (by rfl)) (nomark _)) (pw_and1 (pt_not (pt_val (pe_fld (pv 0) (by rfl))))))))
    (pss_cons (ps_fld (pv 0) pe_bl rfl)
    (pss_one (ps_ret (pe_lst (pa_cons (pe_tup (pa_cons pe_str (pa_cons (pe_fld (pv 0) (by rfl)) pa_nil))) pa_nil)))))
    pss_nil)
    (pss_one (ps_ret (pe_meth0 (pv 0) S.cl mV GV hr bV .nil pass0))))), ?_⟩
  refine ⟨_, rfl, p, C, dx, _, _, rfl, hp, S.cl, S.nQ, deskF_queue _ _ _, _, rfl, by show 1 ≤ sizeLine; decide, ?_⟩
  intro t1 ht1
  have lx := hs.len
  refine cat_anyk (sqt_same (same_upd ht1) hq) (SqT.of upd_same) (by simp; omega) fun r1 G1 s1 h1 => ?_
  have s01 : Same H G1 := (same_upd ht1).trans s1
  have hs1 : Sts K G1 (xs ++ [.ref st]) (L ++ [n]) := (hs.imp fun a ys z => sqt_same s01 z).app (Sts.one (by obtain ⟨t, e, z⟩ := hn; exact ⟨t, e, sqt_same s01 z⟩) sn)
  refine ⟨r1, _, rfl, h1, by simp; omega, fun x hx => ?_, fun ys o perm up ho => ?_⟩
  · obtain ⟨m, _, hm, sm⟩ := hs1.tup x hx
    exact ⟨m, hm, sm.1, sm.2⟩
  obtain ⟨M, hM, pM⟩ := hs1.perm perm
  have upM : Up M := hM.up up
  refine ⟨o, ys, rfl, .inl ⟨SqL.of upd_same, ?_⟩⟩
  intro q' hq'
  have s03 : Same H (upd (upd G1 o (.lst ys)) q' (.tup ys)) := (s01.trans (same_upd ho)).trans (same_upd hq')
  have hM3 : Sts K (upd (upd G1 o (.lst ys)) q' (.tup ys)) ys M := hM.imp fun a zs z => sqt_same ((same_upd ho).trans (same_upd hq')) z
  obtain ⟨G3, hG3⟩ : ∃ G3, G3 = upd (upd G1 o (.lst ys)) q' (.tup ys) := ⟨_, rfl⟩
  have q3 : SqT K G3 q' ys := by rw [hG3]; exact SqT.of upd_same
  rw [← hG3] at s03 hM3
  rw [← hG3]
  have hp3 := s03 _ _ hp
  refine ⟨_, rfl, p, C, dx, _, rfl, hp3, S.cl, S.nQ, (by show 3 < 1000; decide), ?_⟩
  rw [deskF_putQ]
  have cI : Chg p G3 (upd G3 p (.ins C dx (deskF h (.ref q') b))) := Chg.self
  have q4 := sqt_chgI hp3 cI q3
  have hM4 := hM3.imp fun a zs z => sqt_chgI hp3 cI z
  have c4 : Chg p H (upd G3 p (.ins C dx (deskF h (.ref q') b))) := fun z o n e => cI _ _ n (s03 _ _ e)
  have hp4 : upd G3 p (.ins C dx (deskF h (.ref q') b)) p = some (.ins C dx (deskF h (.ref q') b)) := upd_same
  obtain ⟨G4, hG4⟩ : ∃ G4, G4 = upd G3 p (.ins C dx (deskF h (.ref q') b)) := ⟨_, rfl⟩
  rw [← hG4] at q4 hM4 c4 hp4
  rw [← hG4]
  refine ⟨_, rfl, p, C, dx, _, _, rfl, hp4, S.cl, S.nH, deskF_holder _ _ _, ?_⟩
  rcases two with ⟨hh, m, rfl, hm, sm, q⟩ | ⟨rfl, rfl, q⟩
  · refine ⟨rfl, _, rfl, iteT' (by simp) ?_⟩
    obtain ⟨ta, e1, z1⟩ := hn
    obtain ⟨tb, e2, z2⟩ := hm
    cases e1; cases e2
    have z1' := sqt_chgI hp c4 z1
    have z2' := sqt_chgI hp c4 z2
    refine ⟨_, rfl, _, rfl, p, C, dx, _, _, rfl, hp4, S.cl, S.nH, deskF_holder _ _ _, _, _, n, m, rfl, rfl, z1', z2', _, rfl, ?_⟩
    obtain ⟨st', est⟩ : ∃ st', st' = hh := ⟨_, rfl⟩
    subst est
    cases hlt : HT.lexLt n m with
    | false =>
      refine iteF ?_
      refine ⟨_, rfl, p, dx, _, rfl, hp4, deskF_no _ _ _ (by decide +kernel) (by decide +kernel) (by decide +kernel), p, dx, q', .ref st', b, ys, rfl, hp4, q4, .inl ⟨.inl ⟨_, rfl⟩, fun l hl => ?_⟩⟩
      have pl : l ≠ p := by intro z; rw [z, hp4] at hl; cases hl
      refine q l q' _ ys M (c4.back hl pl) (sqt_same (same_upd hl) q4) (hM4.imp fun a zs z => sqt_same (same_upd hl) z) pM upM (c4.new hl) ?_
      rw [if_neg (by simp [hlt])]
      exact ⟨upd_same, same_upd hl _ _ hp4⟩
    | true =>
      refine iteT ?_
      refine ⟨_, rfl, p, C, dx, _, _, rfl, hp4, S.cl, S.nC, deskF_called _ _ _, _, rfl, ?_⟩
      cases b with
      | true =>
        refine iteF' rfl ?_
        refine ⟨_, rfl, p, dx, _, rfl, hp4, deskF_no _ _ _ (by decide +kernel) (by decide +kernel) (by decide +kernel), p, dx, q', .ref st', true, ys, rfl, hp4, q4, .inl ⟨.inl ⟨_, rfl⟩, fun l hl => ?_⟩⟩
        have pl : l ≠ p := by intro z; rw [z, hp4] at hl; cases hl
        refine q l q' _ ys M (c4.back hl pl) (sqt_same (same_upd hl) q4) (hM4.imp fun a zs z => sqt_same (same_upd hl) z) pM upM (c4.new hl) ?_
        rw [if_neg (by simp [hlt])]
        exact ⟨upd_same, same_upd hl _ _ hp4⟩
      | false =>
        refine iteT' rfl ?_
        refine ⟨_, rfl, p, C, dx, _, rfl, hp4, S.cl, S.nC, (by show 3 < 1000; decide), ?_⟩
        rw [deskF_putC]
        refine ⟨_, rfl, p, C, dx, _, _, rfl, upd_same, S.cl, S.nH, deskF_holder _ _ _, by show 2 ≤ sizeLine; decide, ?_⟩
        intro t ht
        refine ⟨by show 1 ≤ sizeLine; decide, ?_⟩
        intro l hl
        have cJ : Chg p G4 (upd G4 p (.ins C dx (deskF (.ref st') (.ref q') true))) := Chg.self
        have hp5 : upd G4 p (.ins C dx (deskF (.ref st') (.ref q') true)) p = some (.ins C dx (deskF (.ref st') (.ref q') true)) := upd_same
        have c5 := c4.trans cJ
        have s5 := (same_upd (o := .tup [.str "back", .ref st']) ht).trans (same_upd (o := .lst [.ref t]) hl)
        have pl : l ≠ p := by intro z; rw [z, (same_upd ht) _ _ hp5] at hl; cases hl
        refine q l q' _ ys M ((c5.new ht).back hl pl) (sqt_same s5 (sqt_chgI hp4 cJ q4)) (hM4.imp fun a zs z => sqt_same s5 (sqt_chgI hp4 cJ z)) pM upM ((c5.new ht).new hl) ?_
        rw [if_pos (by simp [hlt])]
        exact ⟨t, upd_same, same_upd hl _ _ upd_same, s5 _ _ hp5⟩
  · refine ⟨rfl, _, rfl, iteF' (by simp) ?_⟩
    have e0 : L = [] := List.eq_nil_of_length_eq_zero (by rw [← lx]; rfl)
    subst e0
    have ey : ys = [.ref st] := List.perm_singleton.mp perm
    subst ey
    refine ⟨_, rfl, p, dx, _, rfl, hp4, deskF_no _ _ _ (by decide +kernel) (by decide +kernel) (by decide +kernel), p, dx, q', .non, b, _, rfl, hp4, q4, .inr ⟨rfl, _, _, rfl, (by show 1 < 10000; decide), fun l t q2 H2 hl h1 h2 h3 h4 h5 => ?_⟩⟩
    have pl : l ≠ p := by intro z; rw [z, hp4] at hl; cases hl
    exact q l t q2 H2 (c4.back hl pl) h1 h2 h3 h4 (c4.trans h5)
end

end G0
namespace G0
open PySem PySem.Spec PyProof.Rows L2
section
variable {P : Program} {w : World} {K : PySem.W.Frag} {mg : Str → Option Value} {base : Heap} {C : Addr}
/-- the holder's stamp, or none -/
def HoldOk (K : PySem.W.Frag) (H : Hp) (h : V) : Prop := h = .non ∨ ∃ hh m, h = .ref hh ∧ TupI K H (.ref hh) m ∧ StN m
theorem HoldOk.imp {H H' : Hp} {h : V} (c : ∀ a xs, SqT K H a xs → SqT K H' a xs) (z : HoldOk K H h) : HoldOk K H' h := by
  rcases z with z | ⟨hh, m, e, ⟨t, e2, z⟩, sm⟩
  · exact .inl z
  · exact .inr ⟨hh, m, e, ⟨t, e2, c _ _ z⟩, sm⟩
theorem HoldOk.dp {H : Hp} {h : V} (z : HoldOk K H h) : ∃ d, (∀ k, Lv (k + 1) d) ∧ Dp K H h d := by
  rcases z with rfl | ⟨hh, m, rfl, z, sm⟩
  · exact ⟨.none, fun _ => .non, .non⟩
  · exact ⟨stD m, fun _ => lv_st (by rw [sm.1]; decide), dp_stamp z⟩
theorem HoldOk.dps {H : Hp} {h : V} (z : HoldOk K H h) : ∃ d, Dp K H h d ∧ SeqAt.shaped d = true := by
  rcases z with rfl | ⟨hh, m, rfl, z, sm⟩
  · exact ⟨.none, .non, by decide⟩
  · exact ⟨stD m, dp_stamp z, shaped_st m⟩
theorem lv_due (z : Str) {n : List Int} (h : n.length < 10000) : ∀ d ∈ [PyData.tuple [.str z, stD n]], Lv 2 d := fun d hd => by
  rw [List.mem_singleton.mp hd]
  refine .tup (by show 2 < 10000; decide) fun e he => ?_
  simp only [List.mem_cons, List.not_mem_nil, or_false] at he
  rcases he with rfl | rfl
  · exact .str z
  · exact lv_st h
theorem dp_due {H : Hp} {t x : Addr} {z : Str} {n : List Int} (h : SqT K H t [.str z, .ref x]) (hx : TupI K H (.ref x) n) : DpAll K H [.ref t] [PyData.tuple [.str z, stD n]] :=
  .cons (.tup h (.cons (.str z) (.cons (dp_stamp hx) .nil))) .nil
/-! ### _law_cells -/
theorem cut_ints (ns : List Int) (lo hi : Option Int) : ∃ ms : List Int, cutV (ns.map V.int) lo hi = ms.map V.int ∧ ms.length ≤ ns.length ∧ ∀ x ∈ ms, x ∈ ns := by
  unfold cutV
  rw [← List.map_drop, ← List.map_take]
  exact ⟨_, rfl, Nat.le_trans (List.length_take_le' _ _) (by rw [List.length_drop]; omega), fun x hx => List.mem_of_mem_drop (List.mem_of_mem_take hx)⟩
theorem bits_small {z : Int} (h : z.natAbs < 2 ^ 64) : Builtin.Int.intBits z ≤ 1048576 := Nat.le_trans (PyProof.Rows.intBits_le h) (by decide)
def spCells (K : PySem.W.Frag) : Sp := fun vs H Q _ => ∃ (a : Addr) (ns : List Int), vs = [.ref a, .int 0] ∧ SqL K H a (ns.map V.int) ∧ ns.length ≤ 63 ∧ (∀ z ∈ ns, Builtin.Int.intBits z ≤ 1048576) ∧
  ∀ (l : Addr) (H' : Hp) (cs : List Int), H l = none → Same H H' → H' l = some (.lst (cs.map V.int)) → cs.length ≤ 63 → (∀ z ∈ cs, Builtin.Int.intBits z ≤ 1048576) → Q (.ref l) H'
theorem sc_law_cells : FnScope ["script", "start", "found", "k"] ["script", "start"] (defScope s_law_cells) :=
  ⟨rfl, rfl, rfl, by decide +kernel, rfl, by decide +kernel, by decide +kernel⟩
theorem ok_cells (F : Fn K mg "_law_cells" s_law_cells) (T : BlD mg) : Cal P w K mg base "_law_cells" 1 ["script", "start"] (spCells K) := by
  refine cal_of F sc_law_cells
    (fun _ _ _ _ _ _ us hl => match us, hl with | [_, _], _ => rfl) ?_ ?_
  · rintro vs H Q E ⟨a, ns, rfl, _⟩
    rfl
  rintro f cdv A outer s H vs Q E free hr ⟨a, ns, rfl, hS, len, bits, q⟩
  refine ⟨_, (pss_cons (ps_set (i := 2) sc_law_cells.nd rfl (Or.inl rfl) (pe_callTy call_list_of (by rfl) T.list (by decide +kernel) (pa_cons (pe_slice sl_list (pv 0) (po_some (pv 1)) (po_some pe_int)) pa_nil)))
    (pss_cons (ps_for PassesOwn.never rfl (pi_range2 (by rfl) T.range (pa_cons (pe_callB call_len_seq (by rfl) T.len (by decide +kernel) (pa_cons (pv 2) pa_nil)) (pa_cons pe_int pa_nil))) (pg_name (i := 3) sc_law_cells.nd rfl (Or.inl rfl))
    (pss_one (ps_expr (pe_bm PySem.F.plainAttrs_list PySem.F.slot_list_append PySem.F.type_list_append mt_append (pv 2) (pa_cons (pe_op op_add (pe_op op_mul (pe_op op_mod (pe_callB (cr_sum (by rfl)) (by rfl) T.sum (by decide +kernel) (pa_cons (pe_slice sl_list (pv 0) po_none (po_some pe_int)) pa_nil)) pe_int) pe_int) (pe_op op_mul pe_int (pe_op op_add (pv 3) pe_int))) pa_nil)))))
    (pss_one (ps_ret (pv 2))))), ?_⟩
  obtain ⟨ms, em, lm, sub⟩ := cut_ints ns (some 0) (some 63)
  have bm : ∀ z ∈ ms, Builtin.Int.intBits z ≤ 1048576 := fun z hz => bits z (sub z hz)
  refine ⟨_, rfl, _, rfl, _, rfl, _, rfl, a, _, rfl, hS, ?_⟩
  intro s1 h1
  rw [em]
  refine ⟨s1, _, rfl, .inl (SqL.of upd_same), ?_⟩
  intro l hl
  have hl0 : H l = none := by
    by_cases z : l = s1
    · rw [z]; exact h1
    · rw [upd_ne z] at hl; exact hl
  have s2 : Same H (upd (upd H s1 (.lst (ms.map V.int))) l (.lst (ms.map V.int))) := (same_upd h1).trans (same_upd hl)
  have hlm : (ms.map V.int).length = ms.length := List.length_map _
  refine ⟨_, rfl, l, _, rfl, .inl (SqL.of upd_same), _, _, rfl, ⟨by omega, by omega, by omega, by omega⟩, ?_⟩
  obtain ⟨ms2, em2, lm2, sub2⟩ := cut_ints ns none (some 63)
  refine for_range (lo := _) (n := _) (fun i σ G => (∃ k : Option V, σ = [some (V.ref a), some (V.int 0), some (V.ref l), k]) ∧ ∃ cs : List Int, G l = some (.lst (cs.map V.int)) ∧ Same H G ∧ cs.length = ms.length + i ∧
    ∀ z ∈ cs, Builtin.Int.intBits z ≤ 1048576) ⟨⟨_, rfl⟩, ms, upd_same, s2, rfl, bm⟩ ?_ ?_
  · rintro i σ G hi ⟨⟨k, rfl⟩, cs, hG, sG, lc, bc⟩
    have i20 : i < 20 := by omega
    refine ⟨_, rfl, .inl ⟨rfl, _, SqL.of hG⟩, _, rfl, _, rfl, a, _, rfl, sG.seq hS, ?_⟩
    intro s3 h3
    rw [em2]
    refine ⟨s3, ms2, rfl, SqL.of upd_same, ?_⟩
    generalize ms2.sum = su
    refine ⟨_, _, rfl, rfl, (by show (0 : Int) < 1000003; decide), _, _, rfl, rfl, .inr ⟨by decide, by decide⟩, _, rfl, _, _, rfl, rfl, _, _, rfl, rfl, .inl ⟨by decide, by decide⟩, _, _, rfl, rfl, ?_⟩
    have ls : l ≠ s3 := ne_of_none hG h3
    refine ⟨l, _, _, rfl, rfl, by rw [upd_ne ls]; exact hG, by rw [List.length_map]; exact Nat.lt_of_lt_of_le (show cs.length < 100 by omega) (by decide), ?_⟩
    refine ⟨⟨_, rfl⟩, cs ++ [su % 1000003 * 48271 + 104729 * ((((ms.map V.int).length : Nat) : Int) + (i : Int) + 1)], ?_, ?_, by rw [List.length_append, List.length_singleton]; omega, fun z hz => ?_⟩
    · rw [upd_same, List.map_append]; rfl
    · intro b o e
      have nb : b ≠ l := by intro z; rw [z, hl0] at e; cases e
      rw [upd_ne nb]
      exact same_upd h3 _ _ (sG _ _ e)
    · rcases List.mem_append.mp hz with h | h
      · exact bc z h
      · rw [List.mem_singleton.mp h]
        have m0 : 0 ≤ su % 1000003 := Int.emod_nonneg _ (by decide)
        have m1 : su % 1000003 < 1000003 := Int.emod_lt_of_pos _ (by decide)
        exact bits_small (by omega)
  · rintro σ G ⟨⟨k, rfl⟩, cs, hG, sG, lc, bc⟩
    exact ⟨_, rfl, q l G cs hl0 sG hG (by omega) bc⟩
end

end G0
namespace G0
open PySem PySem.Spec PyProof.Rows L2
theorem eqv_intss : ∀ k n : List Int, PyData.eqvAll (k.map PyData.int) (n.map PyData.int) = decide (k = n)
  | [], [] => by simp [PyData.eqvAll]
  | [], _ :: _ => by simp [PyData.eqvAll]
  | _ :: _, [] => by simp [PyData.eqvAll]
  | i :: r, j :: q => by
    have ih := eqv_intss r q
    simp only [List.map_cons, PyData.eqvAll, PyData.eqv, ih]
    by_cases e : i = j <;> by_cases f : r = q <;> simp [e, f]
theorem eqv_sd (k n : List Int) : PyData.eqv (stD k) (stD n) = decide (k = n) := by
  have := eqv_intss k n
  simp only [stD, PyData.eqv]
  exact this
theorem op_neDk {X : Cx} (K : PySem.W.Frag) (hu : X.A.units + 64 < cLine) (hK : X.K = K := by rfl) : OpR X (compareOp .NotEq) (rNeD K) := op_K rNeD K (op_neD hu) hK
section
variable {P : Program} {w : World} {K : PySem.W.Frag} {mg : Str → Option Value} {base : Heap} {C f : Addr} {fd : FuncData}
/-- the free vote is given to the first of M -/
def Out (K : PySem.W.Frag) (C p dx : Addr) (H' : Hp) (l : Addr) (M : List (List Int)) : Prop :=
  (M = [] ∧ H' l = some (.lst []) ∧ ∃ q', SqT K H' q' [] ∧ H' p = some (.ins C dx (deskF .non (.ref q') false))) ∨
  (∃ t x nx r M' q', M = nx :: M' ∧ H' l = some (.lst [.ref t]) ∧ SqT K H' t [.str "vote", .ref x] ∧ TupI K H' (.ref x) nx ∧ StN nx ∧ SqT K H' q' r ∧ Sts K H' r M' ∧ H' p = some (.ins C dx (deskF (.ref x) (.ref q') false)))
/-- nothing is to be sent -/
def Stay (K : PySem.W.Frag) (C p dx : Addr) (h : V) (b : Bool) (H' : Hp) (l : Addr) (M : List (List Int)) : Prop :=
  H' l = some (.lst []) ∧ ∃ q' ys, SqT K H' q' ys ∧ Sts K H' ys M ∧ H' p = some (.ins C dx (deskF h (.ref q') b))
theorem give_out {G : Hp} {p dx q : Addr} {ys : List V} {M : List (List Int)} {Q : VK} {E : XK} (hp : G p = some (.ins C dx (deskF .non (.ref q) false))) (hq : SqT K G q ys) (hs : Sts K G ys M) (len : M.length < 1000)
    (k : ∀ l H', G l = none → Chg p G H' → Out K C p dx H' l M → Q (.ref l) H') : spGive K C [.ref p] G Q E := by
  refine ⟨p, dx, q, .non, false, ys, rfl, hp, hq, ?_⟩
  cases hs with
  | nil =>
    refine .inl ⟨.inr ⟨rfl, rfl⟩, fun l hl => k l _ hl (Chg.same (same_upd hl)) (.inl ⟨rfl, upd_same, q, sqt_same (same_upd hl) hq, same_upd hl _ _ hp⟩)⟩
  | @cons x xs n L a b r =>
    obtain ⟨tx, rfl, hx⟩ := a
    have lr := r.len
    refine .inr ⟨rfl, _, _, rfl, ?_, fun l t q' H' hl h1 h2 h3 h4 h5 => k l H' hl h5 (.inr ⟨t, tx, n, xs, L, q', rfl, h1, SqT.of h2, ⟨tx, rfl, sqt_chgI hp h5 hx⟩, b, h3, r.imp fun a zs z => sqt_chgI hp h5 z, h4⟩)⟩
    rw [List.length_cons] at len ⊢
    omega
theorem give_stay {G : Hp} {p dx q : Addr} {h : V} {b : Bool} {ys : List V} {M : List (List Int)} {Q : VK} {E : XK} (hp : G p = some (.ins C dx (deskF h (.ref q) b))) (hq : SqT K G q ys) (hs : Sts K G ys M) (hh : (∃ a, h = .ref a) ∨ (h = .non ∧ M = []))
    (k : ∀ l H', G l = none → Chg p G H' → Stay K C p dx h b H' l M → Q (.ref l) H') : spGive K C [.ref p] G Q E := by
  refine ⟨p, dx, q, h, b, ys, rfl, hp, hq, .inl ⟨?_, fun l hl => k l _ hl (Chg.same (same_upd hl)) ⟨upd_same, q, ys, sqt_same (same_upd hl) hq, hs.imp fun a zs z => sqt_same (same_upd hl) z, same_upd hl _ _ hp⟩⟩⟩
  rcases hh with z | ⟨z, e⟩
  · exact .inl z
  · subst e; cases hs; exact .inr ⟨z, rfl⟩
/-! ### _free -/
def spFree (C : Addr) : Sp := fun vs H Q _ => ∃ (p dx : Addr) (h q : V) (b : Bool), vs = [.ref p] ∧ H p = some (.ins C dx (deskF h q b)) ∧ Q .non (upd H p (.ins C dx (deskF .non q false)))
theorem sc_Desk_free : FnScope ["self"] ["self"] (defScope s_Desk_free) :=
  ⟨rfl, rfl, rfl, by decide +kernel, rfl, by decide +kernel, by decide +kernel⟩
theorem ok_free (F : Fun K "_free" "Desk._free" s_Desk_free f fd) (S : DeskT K mg C) : FnOk P w K mg base CX0 1 f fd ["self"] (spFree C) := by
  refine F.ok sc_Desk_free (fun vs H Q E h => ?_) (fun cdv A outer s H vs Q E hr h => ?_)
  · obtain ⟨p, dx, h, q, b, rfl, _⟩ := h
    rfl
  obtain ⟨p, dx, h, q, b, rfl, hp, k⟩ := h
  refine ⟨_, (pss_cons (ps_fld (pv 0) pe_non rfl)
    (pss_one (ps_fld (pv 0) pe_bl rfl))), ?_⟩
  refine ⟨_, rfl, p, C, dx, _, rfl, hp, S.cl, S.nH, (by show 3 < 1000; decide), ?_⟩
  rw [deskF_putH]
  refine ⟨_, rfl, p, C, dx, _, rfl, upd_same, S.cl, S.nC, (by show 3 < 1000; decide), ?_⟩
  rw [deskF_putC, upd_upd]
  exact k
/-! ### take_given -/
def HoldM (K : PySem.W.Frag) (H : Hp) (h : V) (M : List (List Int)) (m : Option (List Int)) : Prop := (h = .non ∧ M = [] ∧ m = none) ∨ ∃ hh n, h = .ref hh ∧ TupI K H (.ref hh) n ∧ StN n ∧ m = some n
theorem HoldM.dps {H : Hp} {h : V} {M : List (List Int)} {m : Option (List Int)} (z : HoldM K H h M m) : ∃ d, Dp K H h d ∧ SeqAt.shaped d = true ∧ ∀ n, PyData.eqv (stD n) d = decide (m = some n) := by
  rcases z with ⟨rfl, _, rfl⟩ | ⟨hh, k, rfl, z, sm, rfl⟩
  · exact ⟨.none, .non, by decide, fun n => by simp [stD, PyData.eqv]⟩
  · exact ⟨stD k, dp_stamp z, shaped_st k, fun n => by rw [eqv_sd]; simp [eq_comm]⟩
theorem HoldM.or {H : Hp} {h : V} {M : List (List Int)} {m : Option (List Int)} (z : HoldM K H h M m) : (∃ a, h = .ref a) ∨ (h = .non ∧ M = []) := by
  rcases z with ⟨rfl, e, rfl⟩ | ⟨hh, k, rfl, z, sm, rfl⟩
  · exact .inr ⟨rfl, e⟩
  · exact .inl ⟨hh, rfl⟩
def spGiven (K : PySem.W.Frag) (C : Addr) : Sp := fun vs H Q _ => ∃ (p dx qa st : Addr) (h : V) (b : Bool) (xs : List V) (M : List (List Int)) (m : Option (List Int)) (n : List Int), vs = [.ref p, .ref st] ∧
  H p = some (.ins C dx (deskF h (.ref qa) b)) ∧ SqT K H qa xs ∧ Sts K H xs M ∧ TupI K H (.ref st) n ∧ HoldM K H h M m ∧ M.length < 63 ∧
  (if m = some n then ∀ l H' M1, H l = none → M1.Perm (M ++ [n]) → Up M1 → Chg p H H' → Out K C p dx H' l M1 → Q (.ref l) H'
    else ∀ l H', H l = none → Chg p H H' → Stay K C p dx h b H' l M → Q (.ref l) H')
theorem sc_Desk_take_given : FnScope ["self", "stamp"] ["self", "stamp"] (defScope s_Desk_take_given) :=
  ⟨rfl, rfl, rfl, by decide +kernel, rfl, by decide +kernel, by decide +kernel⟩
theorem ok_given (F : Fun K "take_given" "Desk.take_given" s_Desk_take_given f fd) (T : BlD mg) (S : DeskT K mg C) (MV : Me P w K mg base C "_give_the_free_vote" 1 ["self"] (spGive K C)) (MF : Me P w K mg base C "_free" 1 ["self"] (spFree C)) :
    FnOk P w K mg base CX0 2 f fd ["self", "stamp"] (spGiven K C) := by
  obtain ⟨fV, fdV, GV, bV, mV⟩ := MV
  obtain ⟨fF, fdF, GF, bF, mF⟩ := MF
  refine F.ok sc_Desk_take_given (fun vs H Q E h => ?_) (fun cdv A outer s H vs Q E hr h => ?_)
  · obtain ⟨p, dx, qa, st, h, b, xs, M, m, n, rfl, _⟩ := h
    rfl
  obtain ⟨p, dx, qa, st, h, b, xs, M, m, n, rfl, hp, hq, hs, hn, hm, len, q⟩ := h
  refine ⟨_, (pss_cons (ps_if (pt_cmpR (op_eqD (u64 hr)) (pv 1) (pe_fld (pv 0) (by rfl)) (nomark _))
    (pss_cons (ps_fld (pv 0) (pe_callTy call_tuple_of (by rfl) T.tuple (by decide +kernel) (pa_cons (pe_callB (cr_sortTT (d := 3) (B := 10 ^ 41) (by decide)) (by rfl) T.sorted (by decide +kernel) (pa_cons (pe_op op_catA (pe_fld (pv 0) (by rfl)) (pe_tup (pa_cons (pv 1) pa_nil))) pa_nil)) pa_nil)) rfl)
    (pss_one (ps_expr (pe_meth0 (pv 0) S.cl mF GF hr bF .nil pass0))))
    pss_nil)
    (pss_one (ps_ret (pe_meth0 (pv 0) S.cl mV GV hr bV .nil pass0)))), ?_⟩
  obtain ⟨dh, dd, ds, de⟩ := hm.dps
  refine ⟨_, rfl, _, rfl, p, C, dx, _, _, rfl, hp, S.cl, S.nH, deskF_holder _ _ _, stD n, dh, dp_stamp hn, dd, shaped_st n, ds, _, rfl, ?_⟩
  rw [de n]
  by_cases c : m = some n
  · rw [if_pos c] at q
    refine iteT' (by simp [c]) ?_
    obtain ⟨hh, sn, rfl⟩ : ∃ hh, StN n ∧ h = V.ref hh := by
      rcases hm with ⟨_, _, e⟩ | ⟨hh, k, e, _, sk, ek⟩
      · rw [e] at c; cases c
      · rw [ek] at c; cases c; exact ⟨hh, sk, e⟩
    refine ⟨_, rfl, p, C, dx, _, _, rfl, hp, S.cl, S.nQ, deskF_queue _ _ _, _, rfl, by show 1 ≤ sizeLine; decide, ?_⟩
    intro t1 ht1
    have lx := hs.len
    refine cat_anyk (sqt_same (same_upd ht1) hq) (SqT.of upd_same) (by simp; omega) fun r1 G1 s1 h1 => ?_
    have s01 : Same H G1 := (same_upd ht1).trans s1
    have hs1 : Sts K G1 (xs ++ [.ref st]) (M ++ [n]) := (hs.imp fun a ys z => sqt_same s01 z).app (Sts.one (by obtain ⟨t, e, z⟩ := hn; exact ⟨t, e, sqt_same s01 z⟩) sn)
    refine ⟨r1, _, rfl, h1, by simp; omega, fun x hx => ?_, fun ys o perm up ho => ?_⟩
    · obtain ⟨k, _, hk, sk⟩ := hs1.tup x hx
      exact ⟨k, hk, sk.1, sk.2⟩
    obtain ⟨M1, hM, pM⟩ := hs1.perm perm
    have upM : Up M1 := hM.up up
    refine ⟨o, ys, rfl, .inl ⟨SqL.of upd_same, ?_⟩⟩
    intro q' hq'
    have s03 : Same H (upd (upd G1 o (.lst ys)) q' (.tup ys)) := (s01.trans (same_upd ho)).trans (same_upd hq')
    have hM3 : Sts K (upd (upd G1 o (.lst ys)) q' (.tup ys)) ys M1 := hM.imp fun a zs z => sqt_same ((same_upd ho).trans (same_upd hq')) z
    obtain ⟨G3, hG3⟩ : ∃ G3, G3 = upd (upd G1 o (.lst ys)) q' (.tup ys) := ⟨_, rfl⟩
    have q3 : SqT K G3 q' ys := by rw [hG3]; exact SqT.of upd_same
    rw [← hG3] at s03 hM3
    rw [← hG3]
    have hp3 := s03 _ _ hp
    refine ⟨_, rfl, p, C, dx, _, rfl, hp3, S.cl, S.nQ, (by show 3 < 1000; decide), ?_⟩
    rw [deskF_putQ]
    refine ⟨_, rfl, p, dx, _, rfl, upd_same, deskF_no _ _ _ (by decide +kernel) (by decide +kernel) (by decide +kernel), p, dx, _, _, _, rfl, upd_same, ?_⟩
    rw [upd_upd]
    have cI : Chg p G3 (upd G3 p (.ins C dx (deskF .non (.ref q') false))) := Chg.self
    have q4 := sqt_chgI hp3 cI q3
    have hM4 := hM3.imp fun a zs z => sqt_chgI hp3 cI z
    have c4 : Chg p H (upd G3 p (.ins C dx (deskF .non (.ref q') false))) := fun z o n e => cI _ _ n (s03 _ _ e)
    have hp4 : upd G3 p (.ins C dx (deskF .non (.ref q') false)) p = some (.ins C dx (deskF .non (.ref q') false)) := upd_same
    refine ⟨_, rfl, p, dx, _, rfl, hp4, deskF_no _ _ _ (by decide +kernel) (by decide +kernel) (by decide +kernel), give_out (E := E0) hp4 q4 hM4 (by rw [pM.length_eq, List.length_append, List.length_singleton]; omega) fun l H' hl ch out => ?_⟩
    have pl : l ≠ p := by intro z; rw [z, hp4] at hl; cases hl
    exact q l H' M1 (c4.back hl pl) pM upM (c4.trans ch) out
  · rw [if_neg c] at q
    refine iteF' (by simp [c]) ?_
    refine ⟨_, rfl, p, dx, _, rfl, hp, deskF_no _ _ _ (by decide +kernel) (by decide +kernel) (by decide +kernel), give_stay (E := E0) hp hq hs hm.or q⟩
end

end G0
namespace G0
open PySem PySem.Spec PyProof.Rows L2
section
variable {P : Program} {w : World} {K : PySem.W.Frag} {mg : Str → Option Value} {base : Heap} {C f : Addr} {fd : FuncData}
/-! ### take_done -/
def spDone (K : PySem.W.Frag) (C : Addr) : Sp := fun vs H Q _ => ∃ (p dx qa st : Addr) (h : V) (b : Bool) (xs : List V) (M : List (List Int)) (m : Option (List Int)) (n : List Int), vs = [.ref p, .ref st] ∧
  H p = some (.ins C dx (deskF h (.ref qa) b)) ∧ SqT K H qa xs ∧ Sts K H xs M ∧ TupI K H (.ref st) n ∧ HoldM K H h M m ∧ M.length < 63 ∧
  (if m = some n then ∀ l H', H l = none → Chg p H H' → Out K C p dx H' l M → Q (.ref l) H'
    else ∀ l H', H l = none → Chg p H H' → Stay K C p dx h b H' l (M.filter fun k => !decide (k = n)) → Q (.ref l) H')
theorem filt_snoc {α : Type} {M : List α} {i : Nat} {k : α} (e : M[i]? = some k) (g : α → Bool) : (M.take (i + 1)).filter g = (M.take i).filter g ++ (if g k = true then [k] else []) := by
  rw [List.take_succ, e, List.filter_append]
  cases h : g k <;> simp [h]
theorem sc_Desk_take_done : FnScope ["self", "stamp", "other"] ["self", "stamp"] (defScope s_Desk_take_done) :=
  ⟨rfl, rfl, rfl, by decide +kernel, rfl, by decide +kernel, by decide +kernel⟩
theorem ok_done (F : Fun K "take_done" "Desk.take_done" s_Desk_take_done f fd) (T : BlD mg) (S : DeskT K mg C) (MV : Me P w K mg base C "_give_the_free_vote" 1 ["self"] (spGive K C)) (MF : Me P w K mg base C "_free" 1 ["self"] (spFree C)) :
    FnOk P w K mg base CX0 2 f fd ["self", "stamp"] (spDone K C) := by
  obtain ⟨fV, fdV, GV, bV, mV⟩ := MV
  obtain ⟨fF, fdF, GF, bF, mF⟩ := MF
  refine F.ok sc_Desk_take_done (fun vs H Q E h => ?_) (fun cdv A outer s H vs Q E hr h => ?_)
  · obtain ⟨p, dx, qa, st, h, b, xs, M, m, n, rfl, _⟩ := h
    rfl
  obtain ⟨p, dx, qa, st, h, b, xs, M, m, n, rfl, hp, hq, hs, hn, hm, len, q⟩ := h
  refine ⟨_, (pss_cons (ps_if (pt_cmpR (op_eqD (u64 hr)) (pv 1) (pe_fld (pv 0) (by rfl)) (nomark _))
    (pss_one (ps_expr (pe_meth0 (pv 0) S.cl mF GF hr bF .nil pass0)))
    (pss_one (ps_fld (pv 0) (pe_callTy call_tuple_of (by rfl) T.tuple (by decide +kernel) (pa_cons (pe_lc (own := [("other", 2)]) (g := gName 2)  (by rfl) sc_Desk_take_done.nd (pi_tup (pe_fld (pv 0) (by rfl))) (blkOk_by (N := ["self", "stamp", "other"]) (sc := defScope s_Desk_take_done) (by decide +kernel)) (fun _ _ _ _ _ => pg_name (i := 2) sc_Desk_take_done.nd rfl (Or.inl rfl)) (fun _ _ _ _ _ => pts_one (pt_cmpR (op_neDk K (u64 hr)) (pv 2) (pv 1) (nomark _))) (fun _ _ _ _ _ => (pv 2))) pa_nil)) rfl)))
    (pss_one (ps_ret (pe_meth0 (pv 0) S.cl mV GV hr bV .nil pass0)))), ?_⟩
  obtain ⟨dh, dd, ds, de⟩ := hm.dps
  refine ⟨_, rfl, _, rfl, p, C, dx, _, _, rfl, hp, S.cl, S.nH, deskF_holder _ _ _, stD n, dh, dp_stamp hn, dd, shaped_st n, ds, _, rfl, ?_⟩
  rw [de n]
  by_cases c : m = some n
  · rw [if_pos c] at q
    refine iteT' (by simp [c]) ?_
    refine ⟨_, rfl, p, dx, _, rfl, hp, deskF_no _ _ _ (by decide +kernel) (by decide +kernel) (by decide +kernel), p, dx, _, _, _, rfl, hp, ?_⟩
    have cI : Chg p H (upd H p (.ins C dx (deskF .non (.ref qa) false))) := Chg.self
    have hp4 : upd H p (.ins C dx (deskF .non (.ref qa) false)) p = some (.ins C dx (deskF .non (.ref qa) false)) := upd_same
    refine ⟨_, rfl, p, dx, _, rfl, hp4, deskF_no _ _ _ (by decide +kernel) (by decide +kernel) (by decide +kernel), give_out (E := E0) hp4 (sqt_chgI hp cI hq) (hs.imp fun a zs z => sqt_chgI hp cI z) (by omega) fun l H' hl ch out => ?_⟩
    have pl : l ≠ p := by intro z; rw [z, hp4] at hl; cases hl
    exact q l H' (cI.back hl pl) (cI.trans ch) out
  · rw [if_neg c] at q
    refine iteF' (by simp [c]) ?_
    refine ⟨_, rfl, p, C, dx, _, _, rfl, hp, S.cl, S.nQ, deskF_queue _ _ _, _, rfl, ⟨_, hq⟩, fun J hJ => ?_⟩
    refine lc_tup (K := K) (a := qa) (xs := xs) (fun i G => ∃ acc : List V, G J = some (.lst acc) ∧ Sts K G acc ((M.take i).filter (fun k => !decide (k = n))) ∧ Same H G ∧ acc.length ≤ i)
      ⟨[], upd_same, by simpa using Sts.nil, same_upd hJ, Nat.le_refl _⟩ (fun i G _ h => by obtain ⟨_, _, _, z, _⟩ := h; exact sqt_same z hq) ?_ ?_
    · rintro i x G hi ⟨acc, hG, hA, sG, lA⟩
      obtain ⟨k, ek, tk, sk⟩ := hs.at hi
      obtain ⟨tx, rfl, zx⟩ := tk
      have i63 : i < 63 := by
        have := (List.getElem?_eq_some_iff.mp ek).1
        omega
      refine ⟨rfl, _, rfl, _, rfl, stD k, stD n, dp_stamp ⟨tx, rfl, sqt_same sG zx⟩, dp_stamp (by obtain ⟨t, e, z⟩ := hn; exact ⟨t, e, sqt_same sG z⟩), shaped_st k, shaped_st n, _, rfl, ?_⟩
      rw [eqv_sd]
      rw [filt_snoc ek]
      refine ite2 (fun c2 => ?_) (fun c2 => ?_)
      · have c3 : (fun k => !decide (k = n)) k = true := (by simpa using c2)
        rw [if_pos c3]
        have s9 : Same H (upd G J (.lst (acc ++ [.ref tx]))) := fun z o e => by rw [upd_ne (ne_of_none e hJ)]; exact sG _ _ e
        have nT : ∀ {a : Addr} {zs : List V}, SqT K G a zs → SqT K (upd G J (.lst (acc ++ [.ref tx]))) a zs := fun z => sqt_chg ⟨_, hG⟩ Chg.self z
        refine ⟨_, rfl, acc, hG, Nat.lt_of_lt_of_le (show acc.length < 100 by omega) (by decide), acc ++ [.ref tx], upd_same, (hA.imp fun a zs z => nT z).app (Sts.one ⟨tx, rfl, nT (sqt_same sG zx)⟩ sk), s9, by rw [List.length_append, List.length_singleton]; omega⟩
      · have c3 : ¬ ((fun k => !decide (k = n)) k = true) := (by simpa using c2)
        rw [if_neg c3, List.append_nil]
        exact ⟨acc, hG, hA, sG, Nat.le_succ_of_le lA⟩
    rintro G ⟨acc, hG, hA, sG, lA⟩
    have lx := hs.len
    rw [lx, List.take_length] at hA
    refine ⟨_, _, rfl, .inl ⟨SqL.of hG, ?_⟩⟩
    intro q' hq'
    have s03 : Same H (upd G q' (.tup acc)) := sG.trans (same_upd hq')
    have hM3 : Sts K (upd G q' (.tup acc)) acc _ := hA.imp fun a zs z => sqt_same (same_upd hq') z
    obtain ⟨G3, hG3⟩ : ∃ G3, G3 = upd G q' (.tup acc) := ⟨_, rfl⟩
    have q3 : SqT K G3 q' acc := by rw [hG3]; exact SqT.of upd_same
    rw [← hG3] at s03 hM3
    rw [← hG3]
    have hp3 := s03 _ _ hp
    refine ⟨_, rfl, p, C, dx, _, rfl, hp3, S.cl, S.nQ, (by show 3 < 1000; decide), ?_⟩
    rw [deskF_putQ]
    have cI : Chg p G3 (upd G3 p (.ins C dx (deskF h (.ref q') b))) := Chg.self
    have q4 := sqt_chgI hp3 cI q3
    have hM4 := hM3.imp fun a zs z => sqt_chgI hp3 cI z
    have c4 : Chg p H (upd G3 p (.ins C dx (deskF h (.ref q') b))) := fun z o n e => cI _ _ n (s03 _ _ e)
    have hp4 : upd G3 p (.ins C dx (deskF h (.ref q') b)) p = some (.ins C dx (deskF h (.ref q') b)) := upd_same
    refine ⟨_, rfl, p, dx, _, rfl, hp4, deskF_no _ _ _ (by decide +kernel) (by decide +kernel) (by decide +kernel), give_stay (E := E0) hp4 q4 hM4 ?_ fun l H' hl ch out => ?_⟩
    · rcases hm.or with z | ⟨z, e⟩
      · exact .inl z
      · exact .inr ⟨z, by rw [e]; rfl⟩
    · have pl : l ≠ p := by intro z; rw [z, hp4] at hl; cases hl
      exact q l H' (c4.back hl pl) (c4.trans ch) out
/-! ### take_gone -/
def seatN (k : List Int) : Int := k.getD 1 0
theorem seat_at {k : List Int} (h : k.length = 3) : atI (k.map V.int) 1 = some (.int (seatN k)) :=
  match k, h with
  | [a, b, c], _ => (show atI ([a, b, c].map V.int) ((1 : Nat) : Int) = some (.int b) from atI_nat rfl)
def isSeat (m : Option (List Int)) (v : Int) : Bool := match m with | none => false | some k => decide (seatN k = v)
def spGone (K : PySem.W.Frag) (C : Addr) : Sp := fun vs H Q _ => ∃ (p dx qa : Addr) (h : V) (b : Bool) (xs : List V) (M : List (List Int)) (m : Option (List Int)) (v : Int), vs = [.ref p, .int v] ∧
  H p = some (.ins C dx (deskF h (.ref qa) b)) ∧ SqT K H qa xs ∧ Sts K H xs M ∧ HoldM K H h M m ∧ M.length < 63 ∧
  (if isSeat m v = true then ∀ l H', H l = none → Chg p H H' → Out K C p dx H' l (M.filter fun k => !decide (seatN k = v)) → Q (.ref l) H'
    else ∀ l H', H l = none → Chg p H H' → Stay K C p dx h b H' l (M.filter fun k => !decide (seatN k = v)) → Q (.ref l) H')
theorem dec_ii {a b : Int} : decide (V.int a = V.int b) = decide (a = b) := decide_eq_decide.mpr ⟨fun h => by cases h; rfl, fun h => by rw [h]⟩
theorem sc_Desk_take_gone : FnScope ["self", "seat", "stamp"] ["self", "seat"] (defScope s_Desk_take_gone) :=
  ⟨rfl, rfl, rfl, by decide +kernel, rfl, by decide +kernel, by decide +kernel⟩
theorem ok_gone (F : Fun K "take_gone" "Desk.take_gone" s_Desk_take_gone f fd) (T : BlD mg) (S : DeskT K mg C) (MV : Me P w K mg base C "_give_the_free_vote" 1 ["self"] (spGive K C)) (MF : Me P w K mg base C "_free" 1 ["self"] (spFree C)) :
    FnOk P w K mg base CX0 2 f fd ["self", "seat"] (spGone K C) := by
  obtain ⟨fV, fdV, GV, bV, mV⟩ := MV
  obtain ⟨fF, fdF, GF, bF, mF⟩ := MF
  refine F.ok sc_Desk_take_gone (fun vs H Q E h => ?_) (fun cdv A outer s H vs Q E hr h => ?_)
  · obtain ⟨p, dx, qa, h, b, xs, M, m, v, rfl, _⟩ := h
    rfl
  obtain ⟨p, dx, qa, h, b, xs, M, m, v, rfl, hp, hq, hs, hm, len, q⟩ := h
  refine ⟨_, (pss_cons (ps_fld (pv 0) (pe_callTy call_tuple_of (by rfl) T.tuple (by decide +kernel) (pa_cons (pe_lc (own := [("stamp", 2)]) (g := gName 2)  (by rfl) sc_Desk_take_gone.nd (pi_tup (pe_fld (pv 0) (by rfl))) (blkOk_by (N := ["self", "seat", "stamp"]) (sc := defScope s_Desk_take_gone) (by decide +kernel)) (fun _ _ _ _ _ => pg_name (i := 2) sc_Desk_take_gone.nd rfl (Or.inl rfl)) (fun _ _ _ _ _ => pts_one (pt_cmpR op_ne (pe_ix (ix_tupK K) (pv 2) pe_int (fun _ _ => rfl)) (pv 1) (nomark _))) (fun _ _ _ _ _ => (pv 2))) pa_nil)) rfl)
    (pss_cons (ps_if (PW.pt (pw_and (pt_cmpR op_notN (pe_fld (pv 0) (by rfl)) pe_non (nomark _)) (pw_and1 (pt_cmpR op_eq (pe_ix ix_tup (pe_fld (pv 0) (by rfl)) pe_int (fun _ _ => rfl)) (pv 1) (nomark _)))))
    (pss_one (ps_expr (pe_meth0 (pv 0) S.cl mF GF hr bF .nil pass0)))
    pss_nil)
    (pss_one (ps_ret (pe_meth0 (pv 0) S.cl mV GV hr bV .nil pass0))))), ?_⟩
  refine ⟨_, rfl, p, C, dx, _, _, rfl, hp, S.cl, S.nQ, deskF_queue _ _ _, _, rfl, ⟨_, hq⟩, fun J hJ => ?_⟩
  refine lc_tup (K := K) (a := qa) (xs := xs) (fun i G => ∃ acc : List V, G J = some (.lst acc) ∧ Sts K G acc ((M.take i).filter (fun k => !decide (seatN k = v))) ∧ Same H G ∧ acc.length ≤ i)
    ⟨[], upd_same, by simpa using Sts.nil, same_upd hJ, Nat.le_refl _⟩ (fun i G _ h => by obtain ⟨_, _, _, z, _⟩ := h; exact sqt_same z hq) ?_ ?_
  · rintro i x G hi ⟨acc, hG, hA, sG, lA⟩
    obtain ⟨k, ek, tk, sk⟩ := hs.at hi
    obtain ⟨tx, rfl, zx⟩ := tk
    have i63 : i < 63 := by
      have := (List.getElem?_eq_some_iff.mp ek).1
      omega
    refine ⟨rfl, _, rfl, tx, _, _, _, rfl, rfl, sqt_same sG zx, seat_at sk.1, _, rfl, rfl, _, rfl, ?_⟩
    rw [filt_snoc ek]
    refine ite2 (fun c2 => ?_) (fun c2 => ?_)
    · have c3 : (fun k => !decide (seatN k = v)) k = true := (by simpa [dec_ii] using c2)
      rw [if_pos c3]
      have s9 : Same H (upd G J (.lst (acc ++ [.ref tx]))) := fun z o e => by rw [upd_ne (ne_of_none e hJ)]; exact sG _ _ e
      have nT : ∀ {a : Addr} {zs : List V}, SqT K G a zs → SqT K (upd G J (.lst (acc ++ [.ref tx]))) a zs := fun z => sqt_chg ⟨_, hG⟩ Chg.self z
      refine ⟨_, rfl, acc, hG, Nat.lt_of_lt_of_le (show acc.length < 100 by omega) (by decide), acc ++ [.ref tx], upd_same, (hA.imp fun a zs z => nT z).app (Sts.one ⟨tx, rfl, nT (sqt_same sG zx)⟩ sk), s9, by rw [List.length_append, List.length_singleton]; omega⟩
    · have c3 : ¬ ((fun k => !decide (seatN k = v)) k = true) := (by simpa [dec_ii] using c2)
      rw [if_neg c3, List.append_nil]
      exact ⟨acc, hG, hA, sG, Nat.le_succ_of_le lA⟩
  rintro G ⟨acc, hG, hA, sG, lA⟩
  have lx := hs.len
  rw [lx, List.take_length] at hA
  refine ⟨_, _, rfl, .inl ⟨SqL.of hG, ?_⟩⟩
  intro q' hq'
  have s03 : Same H (upd G q' (.tup acc)) := sG.trans (same_upd hq')
  have hM3 : Sts K (upd G q' (.tup acc)) acc _ := hA.imp fun a zs z => sqt_same (same_upd hq') z
  obtain ⟨G3, hG3⟩ : ∃ G3, G3 = upd G q' (.tup acc) := ⟨_, rfl⟩
  have q3 : SqT K G3 q' acc := by rw [hG3]; exact SqT.of upd_same
  rw [← hG3] at s03 hM3
  rw [← hG3]
  have hp3 := s03 _ _ hp
  refine ⟨_, rfl, p, C, dx, _, rfl, hp3, S.cl, S.nQ, (by show 3 < 1000; decide), ?_⟩
  rw [deskF_putQ]
  have cI : Chg p G3 (upd G3 p (.ins C dx (deskF h (.ref q') b))) := Chg.self
  have q4 := sqt_chgI hp3 cI q3
  have hM4 := hM3.imp fun a zs z => sqt_chgI hp3 cI z
  have c4 : Chg p H (upd G3 p (.ins C dx (deskF h (.ref q') b))) := fun z o n e => cI _ _ n (s03 _ _ e)
  have hp4 : upd G3 p (.ins C dx (deskF h (.ref q') b)) p = some (.ins C dx (deskF h (.ref q') b)) := upd_same
  refine ⟨_, rfl, p, C, dx, _, _, rfl, hp4, S.cl, S.nH, deskF_holder _ _ _, ?_⟩
  have stay : isSeat m v = false → (∀ l H', H l = none → Chg p H H' → Stay K C p dx h b H' l (M.filter fun k => !decide (seatN k = v)) → Q (.ref l) H') := fun e => by rw [e] at q; exact q
  rcases id hm with ⟨rfl, rfl, rfl⟩ | ⟨hh, n, rfl, ⟨th, eh, zh⟩, sn, rfl⟩
  · refine ⟨rfl, _, rfl, iteF' (by simp) ?_⟩
    refine ⟨_, rfl, p, dx, _, rfl, hp4, deskF_no _ _ _ (by decide +kernel) (by decide +kernel) (by decide +kernel), give_stay (E := E0) hp4 q4 hM4 (.inr ⟨rfl, rfl⟩) fun l H' hl ch out => ?_⟩
    have pl : l ≠ p := by intro z; rw [z, hp4] at hl; cases hl
    exact stay rfl l H' (c4.back hl pl) (c4.trans ch) out
  · refine ⟨rfl, _, rfl, iteT' (by simp) ?_⟩
    cases eh
    have zh4 := sqt_chgI hp c4 zh
    refine ⟨_, rfl, p, C, dx, _, _, rfl, hp4, S.cl, S.nH, deskF_holder _ _ _, hh, _, _, _, rfl, rfl, zh4, seat_at sn.1, _, rfl, rfl, _, rfl, ?_⟩
    rw [dec_ii]
    by_cases c : seatN n = v
    · refine iteT' (by simp [c]) ?_
      have qq : ∀ l H', H l = none → Chg p H H' → Out K C p dx H' l (M.filter fun k => !decide (seatN k = v)) → Q (.ref l) H' := by
        rw [show isSeat (some n) v = true from by simp [isSeat, c]] at q
        exact q
      refine ⟨_, rfl, p, dx, _, rfl, hp4, deskF_no _ _ _ (by decide +kernel) (by decide +kernel) (by decide +kernel), p, dx, _, _, _, rfl, hp4, ?_⟩
      have cJ : Chg p (upd G3 p (.ins C dx (deskF (.ref hh) (.ref q') b))) (upd (upd G3 p (.ins C dx (deskF (.ref hh) (.ref q') b))) p (.ins C dx (deskF .non (.ref q') false))) := Chg.self
      have c5 := c4.trans cJ
      have hp5 : upd (upd G3 p (.ins C dx (deskF (.ref hh) (.ref q') b))) p (.ins C dx (deskF .non (.ref q') false)) p = some (.ins C dx (deskF .non (.ref q') false)) := upd_same
      refine ⟨_, rfl, p, dx, _, rfl, hp5, deskF_no _ _ _ (by decide +kernel) (by decide +kernel) (by decide +kernel), give_out (E := E0) hp5 (sqt_chgI hp4 cJ q4) (hM4.imp fun a zs z => sqt_chgI hp4 cJ z) (Nat.lt_of_le_of_lt (List.length_filter_le _ _) (by omega)) fun l H' hl ch out => ?_⟩
      have pl : l ≠ p := by intro z; rw [z, hp5] at hl; cases hl
      exact qq l H' (c5.back hl pl) (c5.trans ch) out
    · refine iteF' (by simp [c]) ?_
      refine ⟨_, rfl, p, dx, _, rfl, hp4, deskF_no _ _ _ (by decide +kernel) (by decide +kernel) (by decide +kernel), give_stay (E := E0) hp4 q4 hM4 (.inl ⟨_, rfl⟩) fun l H' hl ch out => ?_⟩
      have pl : l ≠ p := by intro z; rw [z, hp4] at hl; cases hl
      exact stay (by simp [isSeat, c]) l H' (c4.back hl pl) (c4.trans ch) out
end

end G0
namespace G0
open PySem PySem.Spec PyProof.Rows L2
/-! ### deeds -/
inductive Dd where
  | ask (x : Addr) (n : List Int) | gone (v : Int) | giv (x : Addr) (n : List Int) | don (x : Addr) (n : List Int)
def DeedAt (K : PySem.W.Frag) (H : Hp) (t : Addr) : Dd → Prop
  | .ask x n => SqT K H t [.str "ask", .ref x] ∧ TupI K H (.ref x) n ∧ StN n
  | .gone v => SqT K H t [.str "gone", .int v]
  | .giv x n => SqT K H t [.str "given", .ref x] ∧ TupI K H (.ref x) n
  | .don x n => SqT K H t [.str "done", .ref x] ∧ TupI K H (.ref x) n
theorem DeedAt.imp {K : PySem.W.Frag} {H H' : Hp} (c : ∀ a xs, SqT K H a xs → SqT K H' a xs) {t : Addr} : ∀ {D : Dd}, DeedAt K H t D → DeedAt K H' t D
  | .ask _ _, ⟨a, ⟨y, e, b⟩, s⟩ => ⟨c _ _ a, ⟨y, e, c _ _ b⟩, s⟩
  | .gone _, a => c _ _ a
  | .giv _ _, ⟨a, ⟨y, e, b⟩⟩ => ⟨c _ _ a, ⟨y, e, c _ _ b⟩⟩
  | .don _ _, ⟨a, ⟨y, e, b⟩⟩ => ⟨c _ _ a, ⟨y, e, c _ _ b⟩⟩
/-- what is held: a stamp, or none -/
def HeldV (K : PySem.W.Frag) (H : Hp) (h : V) (m : Option (List Int)) : Prop := (h = .non ∧ m = none) ∨ ∃ hh n, h = .ref hh ∧ TupI K H (.ref hh) n ∧ StN n ∧ m = some n
theorem HeldV.imp {K : PySem.W.Frag} {H H' : Hp} (c : ∀ a xs, SqT K H a xs → SqT K H' a xs) {h : V} {m : Option (List Int)} (z : HeldV K H h m) : HeldV K H' h m := by
  rcases z with z | ⟨hh, n, e, ⟨t, e2, z⟩, sm, f⟩
  · exact .inl z
  · exact .inr ⟨hh, n, e, ⟨t, e2, c _ _ z⟩, sm, f⟩
def mD : Option (List Int) → PyData
  | none => .none
  | some n => stD n
theorem HeldV.dps {K : PySem.W.Frag} {H : Hp} {h : V} {m : Option (List Int)} (z : HeldV K H h m) : ∃ d, (∀ k, Lv (k + 1) d) ∧ Dp K H h d ∧ SeqAt.shaped d = true ∧ (∀ n, PyData.eqv (stD n) d = decide (m = some n)) ∧ d = mD m := by
  rcases z with ⟨rfl, rfl⟩ | ⟨hh, k, rfl, z, sm, rfl⟩
  · exact ⟨.none, fun _ => .non, .non, by decide, fun n => by simp [stD, PyData.eqv], rfl⟩
  · exact ⟨stD k, fun _ => lv_st (by rw [sm.1]; decide), dp_stamp z, shaped_st k, fun n => by rw [eqv_sd]; simp [eq_comm], rfl⟩
theorem eqv_nil (L : List (List Int)) : PyData.eqv (.list (L.map stD)) (.list []) = decide (L = []) := by
  cases L <;> simp [PyData.eqv, PyData.eqvAll]
theorem op_eqD' {X : Cx} {k : Nat} (hr : Room k X.A) : OpR X (compareOp .Eq) (rEqD X.K) := op_eqD (u64 hr)
section
variable {P : Program} {w : World} {K : PySem.W.Frag} {mg : Str → Option Value} {base : Heap} {C : Addr}
/-! ### _law_stamp -/
def spStamp (K : PySem.W.Frag) : Sp := fun vs H Q _ => ∃ low many seat turn : Int, vs = [.int low, .int many, .int seat, .int turn] ∧ 0 ≤ low ∧ low < 4 ∧ 0 ≤ many ∧ many < (10 : Int) ^ Int.toNat 40 ∧ 0 ≤ seat ∧ seat < 60 ∧ 0 ≤ turn ∧ turn < 3 ∧
  ∀ (t : Addr) (H' : Hp) (n : List Int), H t = none → Same H H' → H' t = some (.tup (n.map V.int)) → StN n → Q (.ref t) H'
theorem st3 {a b c : Int} (a0 : 0 ≤ a) (a1 : a < 10 ^ 41) (b0 : 0 ≤ b) (b1 : b < 10 ^ 41) (c0 : 0 ≤ c) (c1 : c < 10 ^ 41) : StN [a, b, c] := by
  refine ⟨rfl, fun m hm => ?_⟩
  simp only [List.mem_cons, List.not_mem_nil, or_false] at hm
  rcases hm with rfl | rfl | rfl <;> constructor <;> assumption
theorem sc_law_stamp : FnScope ["low", "many", "seat", "turn"] ["low", "many", "seat", "turn"] (defScope s_law_stamp) :=
  ⟨rfl, rfl, rfl, by decide +kernel, rfl, by decide +kernel, by decide +kernel⟩
theorem ok_stamp (F : Fn K mg "_law_stamp" s_law_stamp) : Cal P w K mg base "_law_stamp" 1 ["low", "many", "seat", "turn"] (spStamp K) := by
  refine cal_of F sc_law_stamp
    (fun _ _ _ _ _ _ us hl => match us, hl with | [_, _, _, _], _ => rfl) ?_ ?_
  · rintro vs H Q E ⟨_, _, _, _, rfl, _⟩
    rfl
  rintro f cdv A outer s H vs Q E free hr ⟨low, many, seat, turn, rfl, a0, a1, b0, b1, c0, c1, d0, d1, q⟩
  refine ⟨_, (pss_cons (ps_if (pt_cmpR op_eq (pe_op op_mod (pv 1) pe_int) pe_int (nomark _))
    (pss_one (ps_ret (pe_tup (pa_cons (pv 1) (pa_cons (pv 2) (pa_cons (pv 3) pa_nil))))))
    pss_nil)
    (pss_cons (ps_if (pt_cmpR op_eq (pe_op op_mod (pv 1) pe_int) pe_int (nomark _))
    (pss_one (ps_ret (pe_tup (pa_cons (pe_op op_add (pe_op op_pow pe_int pe_int) (pv 0)) (pa_cons (pv 2) (pa_cons (pv 3) pa_nil))))))
    pss_nil)
    (pss_one (ps_ret (pe_tup (pa_cons (pv 0) (pa_cons (pe_op op_mod (pv 2) pe_int) (pa_cons (pv 3) pa_nil)))))))), ?_⟩
  have p39 : (10 : Int) ^ Int.toNat 39 = 1000000000000000000000000000000000000000 := by decide
  have p40 : (10 : Int) ^ Int.toNat 40 = 10000000000000000000000000000000000000000 := by decide
  have p41 : (10 : Int) ^ 41 = 100000000000000000000000000000000000000000 := by decide
  rw [p40] at b1
  refine ⟨_, rfl, _, _, rfl, rfl, (by show (0 : Int) < 8; decide), rfl, _, rfl, ?_⟩
  refine ite2 (fun c1 => ?_) (fun c1 => ?_)
  · refine ⟨_, rfl, _, rfl, _, rfl, ?_⟩
    refine ⟨by show 3 ≤ sizeLine; decide, fun t ht => ?_⟩
    refine q t _ [many, seat, turn] ht (same_upd ht) upd_same ?_
    refine st3 ?_ ?_ ?_ ?_ ?_ ?_ <;> (try rw [p39]) <;> (try rw [p41]) <;> omega
  · refine ⟨_, rfl, _, _, rfl, rfl, (by show (0 : Int) < 8; decide), rfl, _, rfl, ?_⟩
    refine ite2 (fun c2 => ?_) (fun c2 => ?_)
    · refine ⟨_, _, rfl, rfl, ⟨by decide, by decide, by decide⟩, _, rfl, _, _, rfl, rfl, _, rfl, _, rfl, ?_⟩
      refine ⟨by show 3 ≤ sizeLine; decide, fun t ht => ?_⟩
      refine q t _ [(10 ^ Int.toNat 39) + low, seat, turn] ht (same_upd ht) upd_same ?_
      refine st3 ?_ ?_ ?_ ?_ ?_ ?_ <;> (try rw [p39]) <;> (try rw [p41]) <;> omega
    · refine ⟨_, rfl, _, rfl, _, _, rfl, rfl, (by show (0 : Int) < 5; decide), _, rfl, ?_⟩
      refine ⟨by show 3 ≤ sizeLine; decide, fun t ht => ?_⟩
      refine q t _ [low, seat % 5, turn] ht (same_upd ht) upd_same ?_
      refine st3 ?_ ?_ ?_ ?_ ?_ ?_ <;> (try rw [p39]) <;> (try rw [p41]) <;> omega
/-! ### _law_deed -/
def spDeed (K : PySem.W.Frag) : Sp := fun vs H Q _ => ∃ (way pick : Int) (hv : V) (lv fr : Addr) (ls : List V) (L : List (List Int)) (m : Option (List Int)) (n : List Int), vs = [.int way, .int pick, hv, .ref lv, .ref fr] ∧ 0 ≤ pick ∧
  H lv = some (.lst ls) ∧ Sts K H ls L ∧ HeldV K H hv m ∧ (L ≠ [] → m ≠ none) ∧ TupI K H (.ref fr) n ∧ StN n ∧
  ∀ (t : Addr) (H' : Hp) (D : Dd), H t = none → Same H H' → DeedAt K H' t D → Q (.ref t) H'
theorem at_anyk {xs : List V} {d : Int} (h0 : 0 ≤ d) (h1 : d < xs.length) : ∃ v, v ∈ xs ∧ atI xs d = some v := by
  have hk : d.toNat < xs.length := by omega
  have q : atI xs ((d.toNat : Nat) : Int) = some xs[d.toNat] := atI_nat (List.getElem?_eq_getElem hk)
  rw [show ((d.toNat : Nat) : Int) = d by omega] at q
  exact ⟨_, List.getElem_mem hk, q⟩
theorem three {n : List Int} (h : n.length = 3) : ∃ a b c, n = [a, b, c] :=
  match n, h with
  | [a, b, c], _ => ⟨a, b, c, rfl⟩
theorem gd_at {d : Int} (h : d = 0 ∨ d = 1) : ∃ z : Str, (z = "given" ∨ z = "done") ∧ atI [V.str "given", .str "done"] d = some (.str z) := by
  rcases h with rfl | rfl
  · exact ⟨_, .inl rfl, (show atI [V.str "given", .str "done"] ((0 : Nat) : Int) = some (.str "given") from atI_nat rfl)⟩
  · exact ⟨_, .inr rfl, (show atI [V.str "given", .str "done"] ((1 : Nat) : Int) = some (.str "done") from atI_nat rfl)⟩
theorem gd_deed {K : PySem.W.Frag} {H : Hp} {t x : Addr} {z : Str} {n : List Int} (h : z = "given" ∨ z = "done") (ht : SqT K H t [.str z, .ref x]) (hx : TupI K H (.ref x) n) : ∃ D, DeedAt K H t D := by
  rcases h with rfl | rfl
  · exact ⟨.giv x n, ht, hx⟩
  · exact ⟨.don x n, ht, hx⟩
theorem sc_law_deed : FnScope ["way", "pick", "held", "live", "fresh"] ["way", "pick", "held", "live", "fresh"] (defScope s_law_deed) :=
  ⟨rfl, rfl, rfl, by decide +kernel, rfl, by decide +kernel, by decide +kernel⟩
theorem ok_deed (F : Fn K mg "_law_deed" s_law_deed) (T : BlD mg) : Cal P w K mg base "_law_deed" 1 ["way", "pick", "held", "live", "fresh"] (spDeed K) := by
  refine cal_of F sc_law_deed
    (fun _ _ _ _ _ _ us hl => match us, hl with | [_, _, _, _, _], _ => rfl) ?_ ?_
  · rintro vs H Q E ⟨_, _, _, _, _, _, _, _, _, rfl, _⟩
    rfl
  rintro f cdv A outer s H vs Q E free hr ⟨way, pick, hv, lv, fr, ls, L, m, n, rfl, p0, hlv, hL, hh, hne, hfr, sn, q⟩
  refine ⟨_, (pss_cons (ps_if (pt_cmpR op_lt (pv 0) pe_int (nomark _))
    (pss_one (ps_ret (pe_tup (pa_cons pe_str (pa_cons (pv 4) pa_nil)))))
    pss_nil)
    (pss_cons (ps_if (PW.pt (pw_and (pt_cmpR op_eq (pv 0) pe_int (nomark _)) (pw_and1 (PW.pt (pw_or (pt_cmpR (op_eqD (u64 hr)) (pv 3) (pe_lst pa_nil) (nomark _)) (pw_or1 (pt_cmpR op_eq (pe_op op_mod (pv 1) pe_int) pe_int (nomark _))))))))
    (pss_one (ps_ret (pe_tup (pa_cons pe_str (pa_cons (pe_ix ix_tup (pv 4) pe_int (fun _ _ => rfl)) pa_nil)))))
    pss_nil)
    (pss_cons (ps_if (pt_cmpR op_eq (pv 0) pe_int (nomark _))
    (pss_one (ps_ret (pe_tup (pa_cons pe_str (pa_cons (pe_ix ix_tup (pe_ix ix_list (pv 3) (pe_op op_mod (pe_op op_fdivW (pv 1) pe_int) (pe_callB call_len_seq (by rfl) T.len (by decide +kernel) (pa_cons (pv 3) pa_nil))) (fun _ _ => rfl)) pe_int (fun _ _ => rfl)) pa_nil)))))
    pss_nil)
    (pss_cons (ps_if (PW.pt (pw_or (pt_cmpR op_eq (pv 0) pe_int (nomark _)) (pw_or1 (pt_cmpR (op_eqD (u64 hr)) (pv 3) (pe_lst pa_nil) (nomark _)))))
    (pss_one (ps_ret (pe_tup (pa_cons (pe_ix ix_list (pe_lst (pa_cons pe_str (pa_cons pe_str pa_nil))) (pe_op op_mod (pv 1) pe_int) (fun _ _ => rfl)) (pa_cons (pe_tup (pa_cons (pe_op op_add (pe_op op_pow pe_int pe_int) (pv 1)) (pa_cons (pe_ix ix_tup (pv 4) pe_int (fun _ _ => rfl)) (pa_cons (pe_ix ix_tup (pv 4) pe_int (fun _ _ => rfl)) pa_nil)))) pa_nil)))))
    pss_nil)
    (pss_cons (ps_if (PW.pt (pw_or (pt_cmpR op_eq (pv 0) pe_int (nomark _)) (pw_or1 (pt_cmpR op_gt (pv 0) pe_int (nomark _)))))
    (pss_one (ps_ret (pe_tup (pa_cons (pe_ix ix_list (pe_lst (pa_cons pe_str (pa_cons pe_str pa_nil))) (pe_callTy call_int1 (by rfl) T.int (by decide +kernel) (pa_cons (pe_cmpR op_gt (pv 0) pe_int (nomark _)) pa_nil)) (fun _ _ => rfl)) (pa_cons (pe_ix ix_list (pv 3) (pe_op op_mod (pv 1) (pe_callB call_len_seq (by rfl) T.len (by decide +kernel) (pa_cons (pv 3) pa_nil))) (fun _ _ => rfl)) pa_nil)))))
    pss_nil)
    (pss_one (ps_ret (pe_tup (pa_cons (pe_ix ix_list (pe_lst (pa_cons pe_str (pa_cons pe_str pa_nil))) (pe_callTy call_int1 (by rfl) T.int (by decide +kernel) (pa_cons (pe_cmpR op_gt (pv 0) pe_int (nomark _)) pa_nil)) (fun _ _ => rfl)) (pa_cons (pv 2) pa_nil)))))))))), ?_⟩
  refine ⟨_, rfl, _, _, rfl, rfl, _, rfl, ?_⟩
  refine ite2 (fun c1 => ?_) (fun c1 => ?_)
  · refine ⟨_, rfl, by show 2 ≤ sizeLine; decide, fun t ht => ?_⟩
    exact q t _ (.ask fr n) ht (same_upd ht) ⟨SqT.of upd_same, (by obtain ⟨y, e, z⟩ := hfr; exact ⟨y, e, sqt_same (same_upd ht) z⟩), sn⟩
  · refine ⟨_, rfl, rfl, _, rfl, ?_⟩
    obtain ⟨fr', efr, zfr⟩ := id hfr
    cases efr
    have back : ∀ {G : Hp} {t : Addr}, Same H G → G t = none → H t = none := fun s e => by
      cases z : H _ with
      | none => rfl
      | some o => rw [s _ _ z] at e; cases e
    have len63 := hL.len
    by_cases c14 : way = 14
    · refine iteT' (by simp [c14]) ?_
      refine ⟨_, rfl, Nat.zero_le _, ?_⟩
      intro e he
      have s1 : Same H (upd H e (.lst [])) := (Same.refl H).trans (same_upd he)
      refine ⟨.list (L.map stD), .list [], .lst (SqL.of (s1 _ _ hlv)) (hL.imp fun a zs z => sqt_same s1 z).dps, .lst (SqL.of upd_same) .nil, shaped_lsts L, by decide, _, rfl, ?_⟩
      rw [eqv_nil]
      obtain ⟨G1, hG1⟩ : ∃ G1, G1 = upd H e (.lst []) := ⟨_, rfl⟩
      rw [← hG1] at s1
      rw [← hG1]
      by_cases cn : L = []
      · refine iteT' (by simp [cn]) ?_
        refine iteT ?_
        refine ⟨_, rfl, fr, _, _, _, rfl, rfl, sqt_same s1 zfr, seat_at sn.1, by show 2 ≤ sizeLine; decide, fun t ht => ?_⟩
        exact q t _ (.gone (seatN n)) (back s1 ht) (s1.trans (same_upd ht)) (SqT.of upd_same)
      · refine iteF' (by simp [cn]) ?_
        refine ⟨_, rfl, _, _, rfl, rfl, (by show (0 : Int) < 4; decide), rfl, _, rfl, ?_⟩
        refine ite2 (fun c2 => ?_) (fun c2 => ?_)
        · skip
          refine ⟨_, rfl, fr, _, _, _, rfl, rfl, sqt_same s1 zfr, seat_at sn.1, by show 2 ≤ sizeLine; decide, fun t ht => ?_⟩
          exact q t _ (.gone (seatN n)) (back s1 ht) (s1.trans (same_upd ht)) (SqT.of upd_same)
        · refine ⟨_, rfl, rfl, _, rfl, iteT' (by simp [c14]) ?_⟩
          have l0 : 0 < ls.length := by
            rw [len63]; exact List.length_pos_iff.mpr cn
          obtain ⟨x, hx, at_⟩ := at_anyk (xs := ls) (d := pick / 4 % (ls.length : Int)) (Int.emod_nonneg _ (by omega)) (Int.emod_lt_of_pos _ (by omega))
          obtain ⟨k, _, ⟨tx, rfl, zx⟩, sk⟩ := hL.tup x hx
          refine ⟨_, rfl, _, rfl, _, _, rfl, rfl, wide_div (b := 10) (by decide) (by decide) (by decide) (by decide), _, rfl, lv, ls, rfl, .inl (SqL.of (s1 _ _ hlv)), _, _, rfl, rfl, (by show (0 : Int) < (ls.length : Int); omega), lv, _, _, _, rfl, rfl, SqL.of (s1 _ _ hlv), at_, tx, _, _, _, rfl, rfl, sqt_same s1 zx, seat_at sk.1, by show 2 ≤ sizeLine; decide, fun t ht => ?_⟩
          exact q t _ (.gone (seatN k)) (back s1 ht) (s1.trans (same_upd ht)) (SqT.of upd_same)
    · refine iteF' (by simp [c14]) ?_
      refine ⟨_, rfl, rfl, _, rfl, iteF' (by simp [c14]) ?_⟩
      refine ⟨_, rfl, rfl, _, rfl, ?_⟩
      by_cases c15 : way = 15
      · refine iteT' (by simp [c15]) ?_
        refine iteT ?_
        refine ⟨by show 2 ≤ sizeLine; decide, ?_⟩
        intro e2 he2
        obtain ⟨z, hz, az⟩ := gd_at (d := pick % 2) (by omega)
        have s2 := (Same.refl H).trans (same_upd (o := .lst [.str "given", .str "done"]) he2)
        refine ⟨_, rfl, _, _, rfl, rfl, (by show (0 : Int) < 2; decide), e2, _, _, _, rfl, rfl, SqL.of upd_same, az, ?_⟩
        obtain ⟨n0, n1, n2, rfl⟩ := three sn.1
        have z2 := sqt_same s2 zfr
        refine ⟨_, _, rfl, rfl, ⟨by decide, by decide, by decide⟩, _, rfl, _, _, rfl, rfl, _, rfl, fr, _, _, _, rfl, rfl, z2, (show atI ([n0, n1, n2].map V.int) ((1 : Nat) : Int) = some (.int n1) from atI_nat rfl), _, rfl, fr, _, _, _, rfl, rfl, z2, (show atI ([n0, n1, n2].map V.int) ((2 : Nat) : Int) = some (.int n2) from atI_nat rfl), by show 3 ≤ sizeLine; decide, ?_⟩
        intro t2 ht2
        refine ⟨by show 2 ≤ sizeLine; decide, ?_⟩
        intro t ht
        have s3 := s2.trans (same_upd (o := .tup [.int ((10 : Int) ^ Int.toNat 41 + pick), .int n1, .int n2]) ht2)
        have nt : H t = none := back s3 ht
        obtain ⟨D, hD⟩ := gd_deed (K := K) (n := [(10 : Int) ^ Int.toNat 41 + pick, n1, n2]) hz (SqT.of (upd_same (a := t))) ⟨t2, rfl, SqT.of (same_upd ht _ _ upd_same)⟩
        exact q t _ D nt (s3.trans (same_upd ht)) hD
      · refine iteF' (by simp [c15]) ?_
        refine ⟨_, rfl, Nat.zero_le _, ?_⟩
        intro e he
        have s1 : Same H (upd H e (.lst [])) := (Same.refl H).trans (same_upd he)
        refine ⟨.list (L.map stD), .list [], .lst (SqL.of (s1 _ _ hlv)) (hL.imp fun a zs z => sqt_same s1 z).dps, .lst (SqL.of upd_same) .nil, shaped_lsts L, by decide, _, rfl, ?_⟩
        rw [eqv_nil]
        obtain ⟨G1, hG1⟩ : ∃ G1, G1 = upd H e (.lst []) := ⟨_, rfl⟩
        rw [← hG1] at s1
        rw [← hG1]
        by_cases cn : L = []
        · refine iteT' (by simp [cn]) ?_
          refine ⟨by show 2 ≤ sizeLine; decide, ?_⟩
          intro e2 he2
          obtain ⟨z, hz, az⟩ := gd_at (d := pick % 2) (by omega)
          have s2 := s1.trans (same_upd (o := .lst [.str "given", .str "done"]) he2)
          refine ⟨_, rfl, _, _, rfl, rfl, (by show (0 : Int) < 2; decide), e2, _, _, _, rfl, rfl, SqL.of upd_same, az, ?_⟩
          obtain ⟨n0, n1, n2, rfl⟩ := three sn.1
          have z2 := sqt_same s2 zfr
          refine ⟨_, _, rfl, rfl, ⟨by decide, by decide, by decide⟩, _, rfl, _, _, rfl, rfl, _, rfl, fr, _, _, _, rfl, rfl, z2, (show atI ([n0, n1, n2].map V.int) ((1 : Nat) : Int) = some (.int n1) from atI_nat rfl), _, rfl, fr, _, _, _, rfl, rfl, z2, (show atI ([n0, n1, n2].map V.int) ((2 : Nat) : Int) = some (.int n2) from atI_nat rfl), by show 3 ≤ sizeLine; decide, ?_⟩
          intro t2 ht2
          refine ⟨by show 2 ≤ sizeLine; decide, ?_⟩
          intro t ht
          have s3 := s2.trans (same_upd (o := .tup [.int ((10 : Int) ^ Int.toNat 41 + pick), .int n1, .int n2]) ht2)
          have nt : H t = none := back s3 ht
          obtain ⟨D, hD⟩ := gd_deed (K := K) (n := [(10 : Int) ^ Int.toNat 41 + pick, n1, n2]) hz (SqT.of (upd_same (a := t))) ⟨t2, rfl, SqT.of (same_upd ht _ _ upd_same)⟩
          exact q t _ D nt (s3.trans (same_upd ht)) hD
        · refine iteF' (by simp [cn]) ?_
          have l0 : 0 < ls.length := by
            rw [len63]; exact List.length_pos_iff.mpr cn
          refine ⟨_, rfl, rfl, _, rfl, ?_⟩
          refine ite2 (fun c9 => ?_) (fun c9 => ?_)
          · refine iteT ?_
            refine ⟨by show 2 ≤ sizeLine; decide, ?_⟩
            intro e2 he2
            have s2 := s1.trans (same_upd (o := .lst [.str "given", .str "done"]) he2)
            obtain ⟨z, hz, az⟩ := gd_at (d := if decide (11 < way) = true then 1 else 0) (by split <;> simp)
            refine ⟨_, rfl, _, _, rfl, rfl, .inr ⟨_, rfl, e2, _, _, _, rfl, rfl, SqL.of upd_same, az, ?_⟩⟩
            obtain ⟨x, hx, at_⟩ := at_anyk (xs := ls) (d := pick % (ls.length : Int)) (Int.emod_nonneg _ (by omega)) (Int.emod_lt_of_pos _ (by omega))
            obtain ⟨k, _, ⟨tx, rfl, zx⟩, sk⟩ := hL.tup x hx
            refine ⟨_, rfl, _, rfl, _, rfl, lv, ls, rfl, .inl (SqL.of (s2 _ _ hlv)), _, _, rfl, rfl, (by show (0 : Int) < (ls.length : Int); omega), lv, _, _, _, rfl, rfl, SqL.of (s2 _ _ hlv), at_, by show 2 ≤ sizeLine; decide, fun t ht => ?_⟩
            obtain ⟨D, hD⟩ := gd_deed (K := K) (n := k) hz (SqT.of (upd_same (a := t))) ⟨tx, rfl, sqt_same (s2.trans (same_upd ht)) zx⟩
            exact q t _ D (back s2 ht) (s2.trans (same_upd ht)) hD
          · refine ⟨_, rfl, _, _, rfl, rfl, _, rfl, ?_⟩
            refine ite2 (fun c11 => ?_) (fun c11 => ?_)
            · skip
              refine ⟨by show 2 ≤ sizeLine; decide, ?_⟩
              intro e2 he2
              have s2 := s1.trans (same_upd (o := .lst [.str "given", .str "done"]) he2)
              obtain ⟨z, hz, az⟩ := gd_at (d := if decide (11 < way) = true then 1 else 0) (by split <;> simp)
              refine ⟨_, rfl, _, _, rfl, rfl, .inr ⟨_, rfl, e2, _, _, _, rfl, rfl, SqL.of upd_same, az, ?_⟩⟩
              obtain ⟨x, hx, at_⟩ := at_anyk (xs := ls) (d := pick % (ls.length : Int)) (Int.emod_nonneg _ (by omega)) (Int.emod_lt_of_pos _ (by omega))
              obtain ⟨k, _, ⟨tx, rfl, zx⟩, sk⟩ := hL.tup x hx
              refine ⟨_, rfl, _, rfl, _, rfl, lv, ls, rfl, .inl (SqL.of (s2 _ _ hlv)), _, _, rfl, rfl, (by show (0 : Int) < (ls.length : Int); omega), lv, _, _, _, rfl, rfl, SqL.of (s2 _ _ hlv), at_, by show 2 ≤ sizeLine; decide, fun t ht => ?_⟩
              obtain ⟨D, hD⟩ := gd_deed (K := K) (n := k) hz (SqT.of (upd_same (a := t))) ⟨tx, rfl, sqt_same (s2.trans (same_upd ht)) zx⟩
              exact q t _ D (back s2 ht) (s2.trans (same_upd ht)) hD
            · skip
              refine ⟨by show 2 ≤ sizeLine; decide, ?_⟩
              intro e2 he2
              have s2 := s1.trans (same_upd (o := .lst [.str "given", .str "done"]) he2)
              obtain ⟨z, hz, az⟩ := gd_at (d := if decide (9 < way) = true then 1 else 0) (by split <;> simp)
              refine ⟨_, rfl, _, _, rfl, rfl, .inr ⟨_, rfl, e2, _, _, _, rfl, rfl, SqL.of upd_same, az, ?_⟩⟩
              obtain ⟨hh', k, rfl, ⟨tx, ex, zx⟩, sk, em⟩ : ∃ hh k, hv = V.ref hh ∧ TupI K H (.ref hh) k ∧ StN k ∧ m = some k := by
                rcases hh with ⟨_, e⟩ | z
                · exact absurd e (hne cn)
                · exact z
              cases ex
              refine ⟨_, rfl, by show 2 ≤ sizeLine; decide, fun t ht => ?_⟩
              obtain ⟨D, hD⟩ := gd_deed (K := K) (n := k) hz (SqT.of (upd_same (a := t))) ⟨hh', rfl, sqt_same (s2.trans (same_upd ht)) zx⟩
              exact q t _ D (back s2 ht) (s2.trans (same_upd ht)) hD
end

end G0
namespace G0
open PySem PySem.Spec PyProof.Rows L2
theorem dec_str {a b : Str} : decide (V.str a = V.str b) = decide (a = b) := decide_eq_decide.mpr ⟨fun h => by cases h; rfl, fun h => by rw [h]⟩
def liveB (L : List (List Int)) : Dd → List (List Int)
  | .ask _ n => L ++ [n]
  | .gone v => L.filter fun k => !decide (seatN k = v)
  | .giv _ _ => L
  | .don _ n => L.filter fun k => !decide (k = n)
def freedB (m : Option (List Int)) : Dd → Bool
  | .ask _ _ => decide (m = none)
  | .gone v => decide (m = none) || isSeat m v
  | .giv _ n => decide (m = none) || decide (m = some n)
  | .don _ n => decide (m = none) || decide (m = some n)
section
variable {P : Program} {w : World} {K : PySem.W.Frag} {mg : Str → Option Value} {base : Heap} {C : Addr}
theorem at0 {xs : List V} {v : V} (h : xs[0]? = some v) : atI xs 0 = some v := (show atI xs ((0 : Nat) : Int) = some v from atI_nat h)
theorem at1 {xs : List V} {v : V} (h : xs[1]? = some v) : atI xs 1 = some v := (show atI xs ((1 : Nat) : Int) = some v from atI_nat h)
/-! ### _law_told -/
def Told (K : PySem.W.Frag) (C p : Addr) (H : Hp) (Q : VK) : Dd → Prop
  | .ask x _ => spAsk K C [.ref p, .ref x] H Q E0
  | .gone v => spGone K C [.ref p, .int v] H Q E0
  | .giv x _ => spGiven K C [.ref p, .ref x] H Q E0
  | .don x _ => spDone K C [.ref p, .ref x] H Q E0
def spTold (K : PySem.W.Frag) (C : Addr) : Sp := fun vs H Q _ => ∃ (p t dx : Addr) (h q : V) (b : Bool) (D : Dd), vs = [.ref p, .ref t] ∧ H p = some (.ins C dx (deskF h q b)) ∧ DeedAt K H t D ∧ Told K C p H Q D
theorem sc_law_told : FnScope ["desk", "deed"] ["desk", "deed"] (defScope s_law_told) :=
  ⟨rfl, rfl, rfl, by decide +kernel, rfl, by decide +kernel, by decide +kernel⟩
theorem ok_told (F : Fn K mg "_law_told" s_law_told) (S : DeskT K mg C) (MA : Me P w K mg base C "take_ask" 2 ["self", "stamp"] (spAsk K C)) (MG : Me P w K mg base C "take_given" 2 ["self", "stamp"] (spGiven K C))
    (MD : Me P w K mg base C "take_done" 2 ["self", "stamp"] (spDone K C)) (MN : Me P w K mg base C "take_gone" 2 ["self", "seat"] (spGone K C)) : Cal P w K mg base "_law_told" 3 ["desk", "deed"] (spTold K C) := by
  obtain ⟨fA, fdA, GA, bA, mA⟩ := MA
  obtain ⟨fG, fdG, GG, bG, mG⟩ := MG
  obtain ⟨fD, fdD, GD, bD, mD⟩ := MD
  obtain ⟨fN, fdN, GN, bN, mN⟩ := MN
  refine cal_of F sc_law_told
    (fun _ _ _ _ _ _ us hl => match us, hl with | [_, _], _ => rfl) ?_ ?_
  · rintro vs H Q E ⟨_, _, _, _, _, _, _, rfl, _⟩
    rfl
  rintro f cdv A outer s H vs Q E free hr ⟨p, t, dx, h, qv, b, D, rfl, hp, hD, told⟩
  refine ⟨_, (pss_cons (ps_if (pt_cmpR op_eq (pe_ix ix_tup (pv 1) pe_int (fun _ _ => rfl)) pe_str (nomark _))
    (pss_one (ps_ret (pe_meth (pv 0) S.cl mA GA hr bA .nil pass0 (pa_cons (pe_ix ix_tup (pv 1) pe_int (fun _ _ => rfl)) pa_nil))))
    pss_nil)
    (pss_cons (ps_if (pt_cmpR op_eq (pe_ix ix_tup (pv 1) pe_int (fun _ _ => rfl)) pe_str (nomark _))
    (pss_one (ps_ret (pe_meth (pv 0) S.cl mG GG hr bG .nil pass0 (pa_cons (pe_ix ix_tup (pv 1) pe_int (fun _ _ => rfl)) pa_nil))))
    pss_nil)
    (pss_cons (ps_if (pt_cmpR op_eq (pe_ix ix_tup (pv 1) pe_int (fun _ _ => rfl)) pe_str (nomark _))
    (pss_one (ps_ret (pe_meth (pv 0) S.cl mD GD hr bD .nil pass0 (pa_cons (pe_ix ix_tup (pv 1) pe_int (fun _ _ => rfl)) pa_nil))))
    pss_nil)
    (pss_one (ps_ret (pe_meth (pv 0) S.cl mN GN hr bN .nil pass0 (pa_cons (pe_ix ix_tup (pv 1) pe_int (fun _ _ => rfl)) pa_nil))))))), ?_⟩
  cases D with
  | ask x n =>
    refine ⟨_, rfl, t, _, _, _, rfl, rfl, hD.1, at0 rfl, rfl, _, rfl, ?_⟩
    rw [dec_str]
    refine iteT' (by decide +kernel) ?_
    refine ⟨_, rfl, p, dx, _, rfl, hp, deskF_no _ _ _ (by decide +kernel) (by decide +kernel) (by decide +kernel), _, rfl, t, _, _, _, rfl, rfl, hD.1, at1 rfl, ?_⟩
    exact told
  | giv x n =>
    refine ⟨_, rfl, t, _, _, _, rfl, rfl, hD.1, at0 rfl, rfl, _, rfl, ?_⟩
    rw [dec_str]
    refine iteF' (by decide +kernel) ?_
    refine ⟨_, rfl, t, _, _, _, rfl, rfl, hD.1, at0 rfl, rfl, _, rfl, ?_⟩
    rw [dec_str]
    refine iteT' (by decide +kernel) ?_
    refine ⟨_, rfl, p, dx, _, rfl, hp, deskF_no _ _ _ (by decide +kernel) (by decide +kernel) (by decide +kernel), _, rfl, t, _, _, _, rfl, rfl, hD.1, at1 rfl, ?_⟩
    exact told
  | don x n =>
    refine ⟨_, rfl, t, _, _, _, rfl, rfl, hD.1, at0 rfl, rfl, _, rfl, ?_⟩
    rw [dec_str]
    refine iteF' (by decide +kernel) ?_
    refine ⟨_, rfl, t, _, _, _, rfl, rfl, hD.1, at0 rfl, rfl, _, rfl, ?_⟩
    rw [dec_str]
    refine iteF' (by decide +kernel) ?_
    refine ⟨_, rfl, t, _, _, _, rfl, rfl, hD.1, at0 rfl, rfl, _, rfl, ?_⟩
    rw [dec_str]
    refine iteT' (by decide +kernel) ?_
    refine ⟨_, rfl, p, dx, _, rfl, hp, deskF_no _ _ _ (by decide +kernel) (by decide +kernel) (by decide +kernel), _, rfl, t, _, _, _, rfl, rfl, hD.1, at1 rfl, ?_⟩
    exact told
  | gone v =>
    refine ⟨_, rfl, t, _, _, _, rfl, rfl, hD, at0 rfl, rfl, _, rfl, ?_⟩
    rw [dec_str]
    refine iteF' (by decide +kernel) ?_
    refine ⟨_, rfl, t, _, _, _, rfl, rfl, hD, at0 rfl, rfl, _, rfl, ?_⟩
    rw [dec_str]
    refine iteF' (by decide +kernel) ?_
    refine ⟨_, rfl, t, _, _, _, rfl, rfl, hD, at0 rfl, rfl, _, rfl, ?_⟩
    rw [dec_str]
    refine iteF' (by decide +kernel) ?_
    refine ⟨_, rfl, p, dx, _, rfl, hp, deskF_no _ _ _ (by decide +kernel) (by decide +kernel) (by decide +kernel), _, rfl, t, _, _, _, rfl, rfl, hD, at1 rfl, ?_⟩
    exact told
/-! ### _law_fits -/
def spFits (K : PySem.W.Frag) : Sp := fun vs H Q _ => ∃ (t cm gn : Addr) (D : Dd) (cs : List V) (Cm : List (List Int)) (gs : List Int), vs = [.ref t, .ref cm, .ref gn] ∧ DeedAt K H t D ∧ H cm = some (.lst cs) ∧ Sts K H cs Cm ∧ H gn = some (.lst (gs.map V.int)) ∧
  ∀ b : Bool, (∀ x n, D = .ask x n → b = true → n ∉ Cm) → Q (.bl b) H
theorem any_mem {Cm : List (List Int)} {n : List Int} (h : ((Cm.map stD).any fun z => PyData.eqv z (stD n)) = false) : n ∉ Cm := fun m => by
  have := List.any_eq_false.mp h (stD n) (List.mem_map.mpr ⟨n, m, rfl⟩)
  rw [eqv_sd] at this
  simp at this
theorem sc_law_fits : FnScope ["deed", "came", "gone"] ["deed", "came", "gone"] (defScope s_law_fits) :=
  ⟨rfl, rfl, rfl, by decide +kernel, rfl, by decide +kernel, by decide +kernel⟩
theorem ok_fits (F : Fn K mg "_law_fits" s_law_fits) : Cal P w K mg base "_law_fits" 1 ["deed", "came", "gone"] (spFits K) := by
  refine cal_of F sc_law_fits
    (fun _ _ _ _ _ _ us hl => match us, hl with | [_, _, _], _ => rfl) ?_ ?_
  · rintro vs H Q E ⟨_, _, _, _, _, _, _, rfl, _⟩
    rfl
  rintro f cdv A outer s H vs Q E free hr ⟨t, cm, gn, D, cs, Cm, gs, rfl, hD, hcm, hC, hgn, q⟩
  refine ⟨_, (pss_cons (ps_if (pt_cmpR op_eq (pe_ix ix_tup (pv 0) pe_int (fun _ _ => rfl)) pe_str (nomark _))
    (pss_one (ps_ret (pe_and (pe_cmpR (op_notInD (u65 hr)) (pe_ix ix_tup (pv 0) pe_int (fun _ _ => rfl)) (pv 1) (by rfl)) (pe_one (pe_cmpR u_notin (pe_ix ix_tup (pe_ix ix_tup (pv 0) pe_int (fun _ _ => rfl)) pe_int (fun _ _ => rfl)) (pv 2) (by rfl))))))
    pss_nil)
    (pss_one (ps_ret (pe_or (pe_cmpR op_ne (pe_ix ix_tup (pv 0) pe_int (fun _ _ => rfl)) pe_str (nomark _)) (pe_one (pe_cmpR u_notin (pe_ix ix_tup (pv 0) pe_int (fun _ _ => rfl)) (pv 2) (by rfl))))))), ?_⟩
  cases D with
  | ask x n =>
    obtain ⟨zt, ⟨tx, ex, zx⟩, sn⟩ := id hD
    cases ex
    refine ⟨_, rfl, t, _, _, _, rfl, rfl, zt, at0 rfl, rfl, _, rfl, ?_⟩
    rw [dec_str]
    refine iteT' (by decide +kernel) ?_
    refine ⟨_, rfl, t, _, _, _, rfl, rfl, zt, at1 rfl, _, rfl, stD n, Cm.map stD, dp_stamp ⟨x, rfl, zx⟩, .lst (SqL.of hcm) hC.dps, shaped_st n, shaped_lsts Cm, ?_⟩
    refine ⟨_, rfl, ?_⟩
    cases hc : (Cm.map stD).any fun z => PyData.eqv z (stD n) with
    | true =>
      refine iteF' (by simp) ?_
      exact q _ fun _ _ _ z => by simp at z
    | false =>
      refine iteT' (by simp) ?_
      refine ⟨_, rfl, t, _, _, _, rfl, rfl, zt, at1 rfl, x, _, _, _, rfl, rfl, zx, seat_at sn.1, ?_⟩
      refine ⟨_, rfl, .inl ⟨gn, _, rfl, .inl (SqL.of hgn), rfl, flat_ints gs, ?_⟩⟩
      exact q _ fun y k e _ => by cases e; exact any_mem hc
  | giv x n =>
    refine ⟨_, rfl, t, _, _, _, rfl, rfl, hD.1, at0 rfl, rfl, _, rfl, ?_⟩
    rw [dec_str]
    refine iteF' (by decide +kernel) ?_
    refine ⟨_, rfl, t, _, _, _, rfl, rfl, hD.1, at0 rfl, rfl, _, rfl, ?_⟩
    rw [dec_str]
    refine iteT' (by decide +kernel) ?_
    exact q _ fun _ _ e _ => by cases e
  | don x n =>
    refine ⟨_, rfl, t, _, _, _, rfl, rfl, hD.1, at0 rfl, rfl, _, rfl, ?_⟩
    rw [dec_str]
    refine iteF' (by decide +kernel) ?_
    refine ⟨_, rfl, t, _, _, _, rfl, rfl, hD.1, at0 rfl, rfl, _, rfl, ?_⟩
    rw [dec_str]
    refine iteT' (by decide +kernel) ?_
    exact q _ fun _ _ e _ => by cases e
  | gone v =>
    refine ⟨_, rfl, t, _, _, _, rfl, rfl, hD, at0 rfl, rfl, _, rfl, ?_⟩
    rw [dec_str]
    refine iteF' (by decide +kernel) ?_
    refine ⟨_, rfl, t, _, _, _, rfl, rfl, hD, at0 rfl, rfl, _, rfl, ?_⟩
    rw [dec_str]
    refine iteF' (by decide +kernel) ?_
    refine ⟨_, rfl, t, _, _, _, rfl, rfl, hD, at1 rfl, ?_⟩
    refine ⟨_, rfl, .inl ⟨gn, _, rfl, .inl (SqL.of hgn), rfl, flat_ints gs, ?_⟩⟩
    exact q _ fun _ _ e _ => by cases e
end

end G0
namespace G0
open PySem PySem.Spec PyProof.Rows L2
section
variable {P : Program} {w : World} {K : PySem.W.Frag} {mg : Str → Option Value} {base : Heap} {C : Addr}
/-! ### _law_live_behind -/
def spLiveB (K : PySem.W.Frag) : Sp := fun vs H Q _ => ∃ (lv t : Addr) (ls : List V) (L : List (List Int)) (D : Dd), vs = [.ref lv, .ref t] ∧ H lv = some (.lst ls) ∧ Sts K H ls L ∧ L.length ≤ 63 ∧ DeedAt K H t D ∧
  ∀ (l' : Addr) (H' : Hp) (ls' : List V), Same H H' → H' l' = some (.lst ls') → Sts K H' ls' (liveB L D) → (l' = lv ∨ H l' = none) → Q (.ref l') H'
theorem sc_law_live_behind : FnScope ["live", "deed", "one"] ["live", "deed"] (defScope s_law_live_behind) :=
  ⟨rfl, rfl, rfl, by decide +kernel, rfl, by decide +kernel, by decide +kernel⟩
theorem ok_liveb (F : Fn K mg "_law_live_behind" s_law_live_behind) : Cal P w K mg base "_law_live_behind" 1 ["live", "deed"] (spLiveB K) := by
  refine cal_of F sc_law_live_behind
    (fun _ _ _ _ _ _ us hl => match us, hl with | [_, _], _ => rfl) ?_ ?_
  · rintro vs H Q E ⟨_, _, _, _, _, rfl, _⟩
    rfl
  rintro f cdv A outer s H vs Q E free hr ⟨lv, t, ls, L, D, rfl, hlv, hL, len, hD, q⟩
  refine ⟨_, (pss_cons (ps_if (pt_cmpR op_eq (pe_ix ix_tup (pv 1) pe_int (fun _ _ => rfl)) pe_str (nomark _))
    (pss_one (ps_ret (pe_op op_cat (pv 0) (pe_lst (pa_cons (pe_ix ix_tup (pv 1) pe_int (fun _ _ => rfl)) pa_nil)))))
    pss_nil)
    (pss_cons (ps_if (pt_cmpR op_eq (pe_ix ix_tup (pv 1) pe_int (fun _ _ => rfl)) pe_str (nomark _))
    (pss_one (ps_ret (pe_lc (own := [("one", 2)]) (g := gName 2)  (by rfl) sc_law_live_behind.nd (pi_list (pv 0)) (blkOk_by (N := ["live", "deed", "one"]) (sc := defScope s_law_live_behind) (by decide +kernel)) (fun _ _ _ _ _ => pg_name (i := 2) sc_law_live_behind.nd rfl (Or.inl rfl)) (fun _ _ _ _ _ => pts_one (pt_cmpR (op_neDk K (u64 hr)) (pv 2) (pe_ix (ix_tupK K) (pv 1) pe_int (fun _ _ => rfl)) (nomark _))) (fun _ _ _ _ _ => (pv 2)))))
    pss_nil)
    (pss_cons (ps_if (pt_cmpR op_eq (pe_ix ix_tup (pv 1) pe_int (fun _ _ => rfl)) pe_str (nomark _))
    (pss_one (ps_ret (pe_lc (own := [("one", 2)]) (g := gName 2)  (by rfl) sc_law_live_behind.nd (pi_list (pv 0)) (blkOk_by (N := ["live", "deed", "one"]) (sc := defScope s_law_live_behind) (by decide +kernel)) (fun _ _ _ _ _ => pg_name (i := 2) sc_law_live_behind.nd rfl (Or.inl rfl)) (fun _ _ _ _ _ => pts_one (pt_cmpR op_ne (pe_ix (ix_tupK K) (pv 2) pe_int (fun _ _ => rfl)) (pe_ix (ix_tupK K) (pv 1) pe_int (fun _ _ => rfl)) (nomark _))) (fun _ _ _ _ _ => (pv 2)))))
    pss_nil)
    (pss_one (ps_ret (pv 0)))))), ?_⟩
  have ll := hL.len
  cases D with
  | ask x n =>
    obtain ⟨zt, ⟨tx, ex, zx⟩, sn⟩ := id hD
    cases ex
    refine ⟨_, rfl, t, _, _, _, rfl, rfl, zt, at0 rfl, rfl, _, rfl, ?_⟩
    rw [dec_str]
    refine iteT' (by decide +kernel) ?_
    refine ⟨_, rfl, _, rfl, t, _, _, _, rfl, rfl, zt, at1 rfl, by show 1 ≤ sizeLine; decide, ?_⟩
    intro e he
    have s1 := same_upd (o := .lst [.ref x]) he
    refine ⟨lv, e, ls, [.ref x], rfl, rfl, s1 _ _ hlv, upd_same, Nat.le_trans (show ls.length + 1 ≤ 100 by omega) (by decide), ?_⟩
    intro l' hl'
    have s2 := s1.trans (same_upd (o := .lst (ls ++ [.ref x])) hl')
    have nl : H l' = none := by
      cases z : H l' with
      | none => rfl
      | some o => rw [s1 _ _ z] at hl'; cases hl'
    exact q l' _ _ s2 upd_same ((hL.imp fun a zs z => sqt_same s2 z).app (Sts.one ⟨x, rfl, sqt_same s2 zx⟩ sn)) (.inr nl)
  | giv x n =>
    refine ⟨_, rfl, t, _, _, _, rfl, rfl, hD.1, at0 rfl, rfl, _, rfl, ?_⟩
    rw [dec_str]
    refine iteF' (by decide +kernel) ?_
    refine ⟨_, rfl, t, _, _, _, rfl, rfl, hD.1, at0 rfl, rfl, _, rfl, ?_⟩
    rw [dec_str]
    refine iteF' (by decide +kernel) ?_
    refine ⟨_, rfl, t, _, _, _, rfl, rfl, hD.1, at0 rfl, rfl, _, rfl, ?_⟩
    rw [dec_str]
    refine iteF' (by decide +kernel) ?_
    exact ⟨_, rfl, q lv H ls (Same.refl H) hlv hL (.inl rfl)⟩
  | don x n =>
    refine ⟨_, rfl, t, _, _, _, rfl, rfl, hD.1, at0 rfl, rfl, _, rfl, ?_⟩
    rw [dec_str]
    refine iteF' (by decide +kernel) ?_
    refine ⟨_, rfl, t, _, _, _, rfl, rfl, hD.1, at0 rfl, rfl, _, rfl, ?_⟩
    rw [dec_str]
    refine iteT' (by decide +kernel) ?_
    refine ⟨_, rfl, ?_⟩
    refine ⟨_, rfl, ⟨_, SqL.of hlv⟩, fun J hJ => ?_⟩
    refine lc_list (K := K) (a := lv) (xs := ls) (fun i G => ∃ acc : List V, G J = some (.lst acc) ∧ Sts K G acc ((L.take i).filter (fun k => !decide (k = n))) ∧ Same H G ∧ acc.length ≤ i)
      ⟨[], upd_same, by simpa using Sts.nil, same_upd hJ, Nat.le_refl _⟩ (fun i G _ h => by obtain ⟨_, _, _, z, _⟩ := h; exact SqL.of (z _ _ hlv)) ?_ ?_
    · rintro i x G hi ⟨acc, hG, hA, sG, lA⟩
      obtain ⟨k, ek, tk, sk⟩ := hL.at hi
      obtain ⟨tx, rfl, zx⟩ := tk
      have i63 : i < 64 := by
        have := (List.getElem?_eq_some_iff.mp ek).1
        omega
      refine ⟨rfl, _, rfl, _, rfl, t, _, _, _, rfl, rfl, sqt_same sG hD.1, at1 rfl, stD k, stD n, dp_stamp ⟨tx, rfl, sqt_same sG zx⟩, dp_stamp (by obtain ⟨y, e, z⟩ := hD.2; exact ⟨y, e, sqt_same sG z⟩), shaped_st k, shaped_st n, _, rfl, ?_⟩
      rw [eqv_sd]
      rw [filt_snoc ek]
      refine ite2 (fun c2 => ?_) (fun c2 => ?_)
      · have c3 : (fun k => !decide (k = n)) k = true := (by simpa using c2)
        rw [if_pos c3]
        have s9 : Same H (upd G J (.lst (acc ++ [.ref tx]))) := fun z o e => by rw [upd_ne (ne_of_none e hJ)]; exact sG _ _ e
        have nT : ∀ {a : Addr} {zs : List V}, SqT K G a zs → SqT K (upd G J (.lst (acc ++ [.ref tx]))) a zs := fun z => sqt_chg ⟨_, hG⟩ Chg.self z
        refine ⟨_, rfl, acc, hG, Nat.lt_of_lt_of_le (show acc.length < 100 by omega) (by decide), acc ++ [.ref tx], upd_same, (hA.imp fun a zs z => nT z).app (Sts.one ⟨tx, rfl, nT (sqt_same sG zx)⟩ sk), s9, by rw [List.length_append, List.length_singleton]; omega⟩
      · have c3 : ¬ ((fun k => !decide (k = n)) k = true) := (by simpa using c2)
        rw [if_neg c3, List.append_nil]
        exact ⟨acc, hG, hA, sG, Nat.le_succ_of_le lA⟩
    rintro G ⟨acc, hG, hA, sG, lA⟩
    have lx := hL.len
    rw [lx, List.take_length] at hA
    exact q J G acc sG hG hA (.inr hJ)
  | gone v =>
    refine ⟨_, rfl, t, _, _, _, rfl, rfl, hD, at0 rfl, rfl, _, rfl, ?_⟩
    rw [dec_str]
    refine iteF' (by decide +kernel) ?_
    refine ⟨_, rfl, t, _, _, _, rfl, rfl, hD, at0 rfl, rfl, _, rfl, ?_⟩
    rw [dec_str]
    refine iteF' (by decide +kernel) ?_
    refine ⟨_, rfl, t, _, _, _, rfl, rfl, hD, at0 rfl, rfl, _, rfl, ?_⟩
    rw [dec_str]
    refine iteT' (by decide +kernel) ?_
    refine ⟨_, rfl, ?_⟩
    refine ⟨_, rfl, ⟨_, SqL.of hlv⟩, fun J hJ => ?_⟩
    refine lc_list (K := K) (a := lv) (xs := ls) (fun i G => ∃ acc : List V, G J = some (.lst acc) ∧ Sts K G acc ((L.take i).filter (fun k => !decide (seatN k = v))) ∧ Same H G ∧ acc.length ≤ i)
      ⟨[], upd_same, by simpa using Sts.nil, same_upd hJ, Nat.le_refl _⟩ (fun i G _ h => by obtain ⟨_, _, _, z, _⟩ := h; exact SqL.of (z _ _ hlv)) ?_ ?_
    · rintro i x G hi ⟨acc, hG, hA, sG, lA⟩
      obtain ⟨k, ek, tk, sk⟩ := hL.at hi
      obtain ⟨tx, rfl, zx⟩ := tk
      have i63 : i < 64 := by
        have := (List.getElem?_eq_some_iff.mp ek).1
        omega
      refine ⟨rfl, _, rfl, tx, _, _, _, rfl, rfl, sqt_same sG zx, seat_at sk.1, _, rfl, t, _, _, _, rfl, rfl, sqt_same sG hD, at1 rfl, rfl, _, rfl, ?_⟩
      rw [filt_snoc ek]
      refine ite2 (fun c2 => ?_) (fun c2 => ?_)
      · have c3 : (fun k => !decide (seatN k = v)) k = true := (by simpa [dec_ii] using c2)
        rw [if_pos c3]
        have s9 : Same H (upd G J (.lst (acc ++ [.ref tx]))) := fun z o e => by rw [upd_ne (ne_of_none e hJ)]; exact sG _ _ e
        have nT : ∀ {a : Addr} {zs : List V}, SqT K G a zs → SqT K (upd G J (.lst (acc ++ [.ref tx]))) a zs := fun z => sqt_chg ⟨_, hG⟩ Chg.self z
        refine ⟨_, rfl, acc, hG, Nat.lt_of_lt_of_le (show acc.length < 100 by omega) (by decide), acc ++ [.ref tx], upd_same, (hA.imp fun a zs z => nT z).app (Sts.one ⟨tx, rfl, nT (sqt_same sG zx)⟩ sk), s9, by rw [List.length_append, List.length_singleton]; omega⟩
      · have c3 : ¬ ((fun k => !decide (seatN k = v)) k = true) := (by simpa [dec_ii] using c2)
        rw [if_neg c3, List.append_nil]
        exact ⟨acc, hG, hA, sG, Nat.le_succ_of_le lA⟩
    rintro G ⟨acc, hG, hA, sG, lA⟩
    have lx := hL.len
    rw [lx, List.take_length] at hA
    exact q J G acc sG hG hA (.inr hJ)
/-! ### _law_freed -/
def spFreed (K : PySem.W.Frag) : Sp := fun vs H Q _ => ∃ (hv : V) (t : Addr) (m : Option (List Int)) (D : Dd), vs = [hv, .ref t] ∧ HeldV K H hv m ∧ DeedAt K H t D ∧ Q (.bl (freedB m D)) H
theorem sc_law_freed : FnScope ["held", "deed"] ["held", "deed"] (defScope s_law_freed) :=
  ⟨rfl, rfl, rfl, by decide +kernel, rfl, by decide +kernel, by decide +kernel⟩
theorem ok_freed (F : Fn K mg "_law_freed" s_law_freed) : Cal P w K mg base "_law_freed" 1 ["held", "deed"] (spFreed K) := by
  refine cal_of F sc_law_freed
    (fun _ _ _ _ _ _ us hl => match us, hl with | [_, _], _ => rfl) ?_ ?_
  · rintro vs H Q E ⟨_, _, _, _, rfl, _⟩
    rfl
  rintro f cdv A outer s H vs Q E free hr ⟨hv, t, m, D, rfl, hh, hD, q⟩
  refine ⟨_, (pss_cons (ps_if (pt_cmpR op_isN (pv 0) pe_non (nomark _))
    (pss_one (ps_ret pe_bl))
    pss_nil)
    (pss_cons (ps_if (pt_cmpR op_eq (pe_ix ix_tup (pv 1) pe_int (fun _ _ => rfl)) pe_str (nomark _))
    (pss_one (ps_ret (pe_cmpR op_eq (pe_ix ix_tup (pv 0) pe_int (fun _ _ => rfl)) (pe_ix ix_tup (pv 1) pe_int (fun _ _ => rfl)) (nomark _))))
    pss_nil)
    (pss_one (ps_ret (pe_and (pe_cmpR op_ne (pe_ix ix_tup (pv 1) pe_int (fun _ _ => rfl)) pe_str (nomark _)) (pe_one (pe_cmpR (op_eqD (u64 hr)) (pe_ix ix_tup (pv 1) pe_int (fun _ _ => rfl)) (pv 0) (nomark _)))))))), ?_⟩
  refine ⟨_, rfl, rfl, _, rfl, ?_⟩
  rcases hh with ⟨rfl, rfl⟩ | ⟨hh', n', rfl, ⟨tx, ex, zx⟩, sk, rfl⟩
  · refine iteT' (by simp) ?_
    have e : freedB none D = true := by cases D <;> simp [freedB]
    rw [e] at q
    exact q
  · refine iteF' (by simp) ?_
    cases ex
    cases D with
    | ask x n =>
      refine ⟨_, rfl, t, _, _, _, rfl, rfl, hD.1, at0 rfl, rfl, _, rfl, ?_⟩
      rw [dec_str]
      refine iteF' (by decide +kernel) ?_
      refine ⟨_, rfl, t, _, _, _, rfl, rfl, hD.1, at0 rfl, rfl, ?_⟩
      rw [dec_str]
      refine ⟨_, rfl, ?_⟩
      refine iteF' (by decide +kernel) ?_
      exact q
    | giv x n =>
      refine ⟨_, rfl, t, _, _, _, rfl, rfl, hD.1, at0 rfl, rfl, _, rfl, ?_⟩
      rw [dec_str]
      refine iteF' (by decide +kernel) ?_
      refine ⟨_, rfl, t, _, _, _, rfl, rfl, hD.1, at0 rfl, rfl, ?_⟩
      rw [dec_str]
      refine ⟨_, rfl, ?_⟩
      refine iteT' (by decide +kernel) ?_
      refine ⟨_, rfl, t, _, _, _, rfl, rfl, hD.1, at1 rfl, _, rfl, stD n, stD n', dp_stamp hD.2, dp_stamp ⟨hh', rfl, zx⟩, shaped_st n, shaped_st n', ?_⟩
      rw [eqv_sd]
      have e : freedB (some n') (Dd.giv x n) = decide (n = n') := by simp [freedB, eq_comm]
      rw [e] at q
      exact q
    | don x n =>
      refine ⟨_, rfl, t, _, _, _, rfl, rfl, hD.1, at0 rfl, rfl, _, rfl, ?_⟩
      rw [dec_str]
      refine iteF' (by decide +kernel) ?_
      refine ⟨_, rfl, t, _, _, _, rfl, rfl, hD.1, at0 rfl, rfl, ?_⟩
      rw [dec_str]
      refine ⟨_, rfl, ?_⟩
      refine iteT' (by decide +kernel) ?_
      refine ⟨_, rfl, t, _, _, _, rfl, rfl, hD.1, at1 rfl, _, rfl, stD n, stD n', dp_stamp hD.2, dp_stamp ⟨hh', rfl, zx⟩, shaped_st n, shaped_st n', ?_⟩
      rw [eqv_sd]
      have e : freedB (some n') (Dd.don x n) = decide (n = n') := by simp [freedB, eq_comm]
      rw [e] at q
      exact q
    | gone v =>
      refine ⟨_, rfl, t, _, _, _, rfl, rfl, hD, at0 rfl, rfl, _, rfl, ?_⟩
      rw [dec_str]
      refine iteT' (by decide +kernel) ?_
      refine ⟨_, rfl, hh', _, _, _, rfl, rfl, zx, seat_at sk.1, _, rfl, t, _, _, _, rfl, rfl, hD, at1 rfl, rfl, ?_⟩
      rw [dec_ii]
      have e : freedB (some n') (.gone v) = decide (seatN n' = v) := by simp [freedB, isSeat]
      rw [e] at q
      exact q
end

end G0
namespace G0
open PySem PySem.Spec PyProof.Rows L2
section
variable {P : Program} {w : World} {K : PySem.W.Frag} {mg : Str → Option Value} {base : Heap} {C : Addr}
/-! ### _law_desk -/
def Rest (L : List (List Int)) (m : Option (List Int)) (M : List (List Int)) : Prop := ∀ S : List (List Int), S.Perm L → Up S → (S.filter fun k => !decide (m = some k)) = M
def spDesk (K : PySem.W.Frag) (C : Addr) : Sp := fun vs H Q _ => ∃ (p dx qa lv sn : Addr) (h hv : V) (b : Bool) (ys ls zs : List V) (M L Z : List (List Int)) (m : Option (List Int)), vs = [.ref p, hv, .ref lv, .ref sn] ∧
  H p = some (.ins C dx (deskF h (.ref qa) b)) ∧ HeldV K H h m ∧ HeldV K H hv m ∧ SqT K H qa ys ∧ Sts K H ys M ∧ H lv = some (.lst ls) ∧ Sts K H ls L ∧ L.length < 64 ∧ H sn = some (.lst zs) ∧ Sts K H zs Z ∧ b = !decide (Z = []) ∧ Rest L m M ∧
  ∀ H', Same H H' → Q (.bl true) H'
theorem sc_law_desk : FnScope ["desk", "held", "live", "since", "waiting", "one"] ["desk", "held", "live", "since"] (defScope s_law_desk) :=
  ⟨rfl, rfl, rfl, by decide +kernel, rfl, by decide +kernel, by decide +kernel⟩
theorem ok_desk (F : Fn K mg "_law_desk" s_law_desk) (T : BlD mg) (S : DeskT K mg C) (C_same : Cal P w K mg base "_law_same" 4 ["found", "due"] (spSameD K 3))
    (ML : Me P w K mg base C "__len__" 1 ["self"] (spDLen (K := K) C)) : Cal P w K mg base "_law_desk" 5 ["desk", "held", "live", "since"] (spDesk K C) := by
  obtain ⟨fL, fdL, GL, bL, mL⟩ := ML
  refine cal_of F sc_law_desk
    (fun _ _ _ _ _ _ us hl => match us, hl with | [_, _, _, _], _ => rfl) ?_ ?_
  · rintro vs H Q E ⟨_, _, _, _, _, _, _, _, _, _, _, _, _, _, _, rfl, _⟩
    rfl
  rintro f cdv A outer s H vs Q E free hr ⟨p, dx, qa, lv, sn, h, hv, b, ys, ls, zs, M, L, Z, m, rfl, hp, hh, hhv, hq, hM, hlv, hL, len, hsn, hZ, hb, rest, q⟩
  have hr2 : Room 2 _ := hr.mono (by decide)
  refine ⟨_, (pss_cons (ps_setLc (i := 4) (own := [("one", 5)]) (g := gName 5)  (by rfl) sc_law_desk.nd rfl rfl (sw_true rfl rfl rfl (by decide +kernel)) (pi_list (pe_callB (cr_sortT (d := 3) (B := 10 ^ 41) (by decide)) (by rfl) T.sorted (by decide +kernel) (pa_cons (pv 2) pa_nil))) (blkOk_by (N := ["desk", "held", "live", "since", "waiting", "one"]) (sc := defScope s_law_desk) (by decide +kernel)) (fun _ _ _ _ _ => pg_name (i := 5) sc_law_desk.nd rfl (Or.inl rfl)) (fun _ _ _ _ _ => pts_one (pt_cmpR (op_neDk K (u64 hr)) (pv 5) (pv 1) (nomark _))) (fun _ _ _ _ _ => (pv 5)))
    (pss_cons (ps_if (PW.pt (pw_or (pt_not (pt_val (pe_cal C_same free (hr.mono (by decide)) (pa_cons (pe_fld (pv 0) (by rfl)) (pa_cons (pv 1) pa_nil))))) (pw_or1 (pt_not (pt_val (pe_cal C_same free (hr.mono (by decide)) (pa_cons (pe_fld (pv 0) (by rfl)) (pa_cons (pe_cmpR (op_neD (u64 hr)) (pv 3) (pe_lst pa_nil) (nomark _)) pa_nil))))))))
    (pss_one (ps_ret pe_bl))
    pss_nil)
    (pss_one (ps_ret (pe_and (pe_callB call_isi (by rfl) T.isinstance (by decide +kernel) (pa_cons (pe_fld (pv 0) (by rfl)) (pa_cons (pe_bltn (v := .ty "tuple") (by rfl) T.tuple (by decide +kernel) rfl) pa_nil))) (pe_and (pe_cmpR (op_eqD (u64 hr)) (pe_fld (pv 0) (by rfl)) (pe_callTy call_tuple_of (by rfl) T.tuple (by decide +kernel) (pa_cons (pv 4) pa_nil)) (nomark _)) (pe_one (pe_cmpR op_eq (pe_callB (call_lenOwn mL GL hr2 bL pass0) (by rfl) T.len (by decide +kernel) (pa_cons (pv 0) pa_nil)) (pe_callB call_len_seq (by rfl) T.len (by decide +kernel) (pa_cons (pv 4) pa_nil)) (nomark _))))))))), ?_⟩
  obtain ⟨d, lvd, hd, _, _, ed⟩ := hh.dps
  obtain ⟨dv, _, ddv, sdv, edv, ev⟩ := hhv.dps
  have edd : dv = d := by rw [ed, ev]
  have ll := hL.len
  refine ⟨_, rfl, lv, ls, rfl, SqL.of hlv, by omega, fun x hx => ?_, fun xs l perm up hl => ?_⟩
  · obtain ⟨k, _, hk, sk⟩ := hL.tup x hx
    exact ⟨k, hk, sk.1, sk.2⟩
  obtain ⟨A1, hA0, pA⟩ := hL.perm perm
  have upA : Up A1 := hA0.up up
  have s1 := same_upd (o := .lst xs) hl
  have hl1 : upd H l (.lst xs) l = some (.lst xs) := upd_same
  have hA1 : Sts K (upd H l (.lst xs)) xs A1 := hA0.imp fun a zs z => sqt_same s1 z
  obtain ⟨H1, hH1⟩ : ∃ H1, H1 = upd H l (.lst xs) := ⟨_, rfl⟩
  rw [← hH1] at s1 hl1 hA1
  rw [← hH1]
  have lA1 : A1.length < 64 := by rw [pA.length_eq]; exact len
  refine ⟨_, rfl, ⟨_, SqL.of hl1⟩, fun J hJ => ?_⟩
  refine lc_list (K := K) (a := l) (xs := xs) (fun i G => ∃ acc : List V, G J = some (.lst acc) ∧ Sts K G acc ((A1.take i).filter (fun k => !decide (m = some k))) ∧ Same H1 G ∧ acc.length ≤ i)
    ⟨[], upd_same, by simpa using Sts.nil, same_upd hJ, Nat.le_refl _⟩ (fun i G _ h => by obtain ⟨_, _, _, z, _⟩ := h; exact SqL.of (z _ _ hl1)) ?_ ?_
  · rintro i x G hi ⟨acc, hG, hA, sG, lA⟩
    obtain ⟨k, ek, tk, sk⟩ := hA1.at hi
    obtain ⟨tx, rfl, zx⟩ := tk
    have i63 : i < 64 := by
      have := (List.getElem?_eq_some_iff.mp ek).1
      omega
    refine ⟨rfl, _, rfl, _, rfl, stD k, dv, dp_stamp ⟨tx, rfl, sqt_same sG zx⟩, dp_same ((s1).trans sG) _ _ ddv, shaped_st k, sdv, _, rfl, ?_⟩
    rw [edv]
    rw [filt_snoc ek]
    refine ite2 (fun c2 => ?_) (fun c2 => ?_)
    · have c3 : (fun k => !decide (m = some k)) k = true := (by simpa using c2)
      rw [if_pos c3]
      have s9 : Same H1 (upd G J (.lst (acc ++ [.ref tx]))) := fun z o e => by rw [upd_ne (ne_of_none e hJ)]; exact sG _ _ e
      have nT : ∀ {a : Addr} {zs : List V}, SqT K G a zs → SqT K (upd G J (.lst (acc ++ [.ref tx]))) a zs := fun z => sqt_chg ⟨_, hG⟩ Chg.self z
      refine ⟨_, rfl, acc, hG, Nat.lt_of_lt_of_le (show acc.length < 100 by omega) (by decide), acc ++ [.ref tx], upd_same, (hA.imp fun a zs z => nT z).app (Sts.one ⟨tx, rfl, nT (sqt_same sG zx)⟩ sk), s9, by rw [List.length_append, List.length_singleton]; omega⟩
    · have c3 : ¬ ((fun k => !decide (m = some k)) k = true) := (by simpa using c2)
      rw [if_neg c3, List.append_nil]
      exact ⟨acc, hG, hA, sG, Nat.le_succ_of_le lA⟩
  rintro G ⟨acc, hG, hA, sG, lA⟩
  have lx := hA1.len
  rw [lx, List.take_length] at hA
  rw [rest A1 pA upA] at hA
  have s2 := s1.trans sG
  have hp2 := s2 _ _ hp
  have dd2 := dp_same s2 _ _ hd
  have dv2 := dp_same s2 _ _ ddv
  rw [edd] at dv2
  refine ⟨_, rfl, p, C, dx, _, _, rfl, hp2, S.cl, S.nH, deskF_holder _ _ _, _, rfl, _, _, rfl, .inl ⟨d, lvd 2, dd2, dv2⟩, _, rfl, iteF' rfl ?_⟩
  refine ⟨_, rfl, p, C, dx, _, _, rfl, hp2, S.cl, S.nC, deskF_called _ _ _, _, rfl, Nat.zero_le _, ?_⟩
  intro e he
  have s3 := s2.trans (same_upd (o := .lst []) he)
  refine ⟨.list (Z.map stD), .list [], .lst (SqL.of (s3 _ _ hsn)) (hZ.imp fun a zs z => sqt_same s3 z).dps, .lst (SqL.of upd_same) .nil, shaped_lsts Z, by decide, ?_⟩
  rw [eqv_nil, ← hb]
  refine ⟨_, _, rfl, .inl ⟨.bool b, .bl b, .bl b, .bl b⟩, _, rfl, iteF' rfl ?_⟩
  have hp3 := s3 _ _ hp
  refine ⟨_, rfl, p, C, dx, _, _, rfl, hp3, S.cl, S.nQ, deskF_queue _ _ _, _, .ty "tuple", _, _, _, rfl, .ty _, ty_sqt (sqt_same s3 hq), kit_ty (r := true) (by decide +kernel), ?_⟩
  refine ⟨_, rfl, ?_⟩
  refine iteT ?_
  have hG3 := same_upd (o := .lst []) he _ _ hG
  refine ⟨_, rfl, p, C, dx, _, _, rfl, hp3, S.cl, S.nQ, deskF_queue _ _ _, _, rfl, J, acc, rfl, .inl ⟨SqL.of hG3, ?_⟩⟩
  intro t ht
  have st := same_upd (o := .tup acc) ht
  have s4 := s3.trans st
  refine ⟨_, _, .tup (sqt_same s4 hq) (hM.imp fun a zs z => sqt_same s4 z).dps, .tup (SqT.of upd_same) (hA.imp fun a zs z => sqt_same ((same_upd he).trans st) z).dps, shaped_tups M, shaped_tups M, ?_⟩
  rw [eqv_tups]
  refine ⟨_, rfl, ?_⟩
  refine iteT ?_
  have e1 := hM.len
  have e2 := hA.len
  refine ⟨_, rfl, p, dx, _, rfl, s4 _ _ hp, p, dx, qa, h, b, ys, rfl, s4 _ _ hp, sqt_same s4 hq, ys.length, rfl, Nat.le_trans (show ys.length ≤ 100 by omega) (by decide), ?_⟩
  refine ⟨_, rfl, J, acc, rfl, .inl (SqL.of (st _ _ hG3)), rfl, ?_⟩
  rw [e1, e2, decide_eq_true rfl]
  exact q _ s4
end

end G0
namespace G0
open PySem PySem.Spec PyProof.Rows L2
/-! ### what is live, held and waits -/
structure Dat (L M : List (List Int)) (m : Option (List Int)) (Cm : List (List Int)) : Prop where
  nd : L.Nodup
  up : Up M
  pm : M.Perm (L.filter fun k => !decide (m = some k))
  non : m = none → L = []
  mem : ∀ k, m = some k → k ∈ L
  sub : ∀ k ∈ L, k ∈ Cm
theorem up_filter {S : List (List Int)} (u : Up S) (g : List Int → Bool) : Up (S.filter g) := List.Pairwise.filter g u
theorem Dat.rest {L M : List (List Int)} {m : Option (List Int)} {Cm : List (List Int)} (D : Dat L M m Cm) (st : ∀ k ∈ L, StN k) : Rest L m M := fun S p u =>
  same_sorted ((p.filter _).trans D.pm.symm) (fun k hk => st k (p.mem_iff.mp ((List.mem_filter.mp hk).1))) (up_filter u _) D.up
theorem Dat.mnone {L M : List (List Int)} {Cm : List (List Int)} (D : Dat L M none Cm) : M = [] := by
  have h := D.pm
  rw [D.non rfl] at h
  exact List.Perm.eq_nil h
theorem filt_ne {L : List (List Int)} {k : List Int} : (L.filter fun x => !decide (some k = some x)) = L.filter fun x => !decide (x = k) := by
  exact List.filter_congr fun x _ => congrArg not (decide_eq_decide.mpr ⟨fun h => (Option.some.inj h).symm, fun h => by rw [h]⟩)
/-- one that waits, or is over, or a seat gone: not the holder's -/
theorem Dat.keep {L M : List (List Int)} {k : List Int} {Cm : List (List Int)} (D : Dat L M (some k) Cm) (g : List Int → Bool) (hg : g k = true) : Dat (L.filter g) (M.filter g) (some k) Cm where
  nd := D.nd.filter g
  up := up_filter D.up g
  pm := by
    refine (D.pm.filter g).trans ?_
    rw [List.filter_filter, List.filter_filter]
    exact List.Perm.of_eq (List.filter_congr fun x _ => Bool.and_comm _ _)
  non := fun e => by cases e
  mem := fun x e => by cases e; exact List.mem_filter.mpr ⟨D.mem k rfl, hg⟩
  sub := fun x hx => D.sub x ((List.mem_filter.mp hx).1)
/-- the first of those that are live is held -/
theorem Dat.first {L M : List (List Int)} {nx : List Int} {Cm : List (List Int)} (nd : L.Nodup) (p : (nx :: M).Perm L) (u : Up (nx :: M)) (sub : ∀ k ∈ L, k ∈ Cm) : Dat L M (some nx) Cm where
  nd := nd
  up := (List.pairwise_cons.mp u).2
  pm := by
    have nd2 : (nx :: M).Nodup := p.nodup_iff.mpr nd
    have h := p.filter fun x => !decide (some nx = some x)
    rw [filt_ne, filt_ne] at h
    rw [filt_ne]
    rw [List.filter_cons, if_neg (by simp)] at h
    rw [List.filter_eq_self.mpr (fun x hx => by
      have : x ≠ nx := fun e => (List.nodup_cons.mp nd2).1 (e ▸ hx)
      simp [this])] at h
    exact h
  non := fun e => by cases e
  mem := fun x e => by cases e; exact p.mem_iff.mp (List.mem_cons_self ..)
  sub := sub
theorem Dat.empty {Cm : List (List Int)} : Dat [] [] none Cm where
  nd := List.nodup_nil
  up := List.Pairwise.nil
  pm := List.Perm.refl _
  non := fun _ => rfl
  mem := fun _ e => by cases e
  sub := fun _ h => (List.not_mem_nil h).elim
/-- a new stamp behind a holder -/
theorem Dat.more {L M M' : List (List Int)} {k n : List Int} {Cm : List (List Int)} (D : Dat L M (some k) Cm) (hn : n ∉ Cm) (p : M'.Perm (M ++ [n])) (u : Up M') : Dat (L ++ [n]) M' (some k) (Cm ++ [n]) where
  nd := by
    rw [List.nodup_append]
    exact ⟨D.nd, (by simp), fun a ha b hb => by rw [List.mem_singleton.mp hb]; exact fun e => hn (D.sub n (e ▸ ha))⟩
  up := u
  pm := by
    refine p.trans ?_
    rw [List.filter_append]
    have e : ([n].filter fun x => !decide (some k = some x)) = [n] := by
      have : k ≠ n := fun e => hn (D.sub n (e ▸ D.mem k rfl))
      simp [this]
    rw [e]
    exact D.pm.append_right _
  non := fun e => by cases e
  mem := fun x e => List.mem_append.mpr (.inl (D.mem x e))
  sub := fun x hx => by
    rcases List.mem_append.mp hx with h | h
    · exact List.mem_append.mpr (.inl (D.sub x h))
    · exact List.mem_append.mpr (.inr h)
/-- the holder waits again: all are live -/
theorem Dat.whole {L M : List (List Int)} {k : List Int} {Cm : List (List Int)} (D : Dat L M (some k) Cm) : (M ++ [k]).Perm L := by
  have h := D.pm
  rw [filt_ne] at h
  refine (h.append_right [k]).trans ?_
  have e1 := D.mem k rfl
  have nd := D.nd
  clear h D
  induction L with
  | nil => exact absurd e1 List.not_mem_nil
  | cons a L ih =>
    rw [List.filter_cons]
    obtain ⟨h1, h2⟩ := List.nodup_cons.mp nd
    by_cases c : a = k
    · subst c
      rw [if_neg (by simp)]
      rw [List.filter_eq_self.mpr (fun x hx => by
        have : x ≠ a := fun e => h1 (e ▸ hx)
        simp [this])]
      exact List.perm_append_comm
    · rw [if_pos (by simp [c])]
      have m2 : k ∈ L := by
        rcases List.mem_cons.mp e1 with h | h
        · exact absurd h.symm c
        · exact h
      exact (ih m2 h2).cons a
theorem Dat.gone {L M : List (List Int)} {k : List Int} {Cm : List (List Int)} (D : Dat L M (some k) Cm) (g : List Int → Bool) (hg : g k = false) : (M.filter g).Perm (L.filter g) := by
  refine (D.pm.filter g).trans ?_
  rw [List.filter_filter]
  refine List.Perm.of_eq (List.filter_congr fun x _ => ?_)
  by_cases e : x = k
  · subst e; simp [hg]
  · simp [show ¬ (k = x) from fun z => e z.symm]
theorem Dat.done {L M : List (List Int)} {k : List Int} {Cm : List (List Int)} (D : Dat L M (some k) Cm) : M.Perm (L.filter fun x => !decide (x = k)) := by
  have h := D.pm
  rw [filt_ne] at h
  exact h
/-! ### several objects may change -/
def NT (H : Hp) (s : Addr) : Prop := (∃ xs, H s = some (.lst xs)) ∨ ∃ D dx fs, H s = some (.ins D dx fs)
theorem sqt_chgS {K : PySem.W.Frag} {S : List Addr} {H H' : Hp} (c : ChgS S H H') (nt : ∀ s ∈ S, NT H s) {a : Addr} {xs : List V} (h : SqT K H a xs) : SqT K H' a xs := by
  have n : ∀ {o : HO}, H a = some o → (∀ s ∈ S, NT H s → a ≠ s) → H' a = some o := fun e q => c _ _ (fun m => q a m (nt a m) rfl) e
  rcases h with (h | ⟨o, h⟩) | h
  · refine .inl (.inl (n h fun s _ z e => ?_))
    subst e
    rcases z with ⟨_, z⟩ | ⟨_, _, _, z⟩ <;> rw [h] at z <;> cases z
  · refine .inl (.inr ⟨o, n h fun s _ z e => ?_⟩)
    subst e
    rcases z with ⟨_, z⟩ | ⟨_, _, _, z⟩ <;> rw [h] at z <;> cases z
  · exact .inr h
structure Dk (K : PySem.W.Frag) (C : Addr) (H : Hp) (p dx : Addr) (hv : V) (lv sn cm gn : Addr) (j : Nat) : Prop where
  ex : ∃ (h : V) (qa : Addr) (b : Bool) (ys ls zs cs : List V) (M L Z Cm : List (List Int)) (gs : List Int) (m : Option (List Int)), H p = some (.ins C dx (deskF h (.ref qa) b)) ∧ HeldV K H h m ∧ HeldV K H hv m ∧ SqT K H qa ys ∧ Sts K H ys M ∧
    H lv = some (.lst ls) ∧ Sts K H ls L ∧ H sn = some (.lst zs) ∧ Sts K H zs Z ∧ H cm = some (.lst cs) ∧ Sts K H cs Cm ∧ H gn = some (.lst (gs.map V.int)) ∧ b = !decide (Z = []) ∧ Dat L M m Cm ∧ (m = none → Z = []) ∧
    L.length ≤ j ∧ Z.length ≤ j ∧ Cm.length ≤ j ∧ gs.length ≤ j
theorem Dk.chg {K : PySem.W.Frag} {C : Addr} {H H' : Hp} {p dx : Addr} {hv : V} {lv sn cm gn : Addr} {j : Nat} {S : List Addr} (D : Dk K C H p dx hv lv sn cm gn j) (c : ChgS S H H') (nt : ∀ s ∈ S, NT H s)
    (n1 : p ∉ S) (n2 : lv ∉ S) (n3 : sn ∉ S) (n4 : cm ∉ S) (n5 : gn ∉ S) : Dk K C H' p dx hv lv sn cm gn j := by
  obtain ⟨h, qa, b, ys, ls, zs, cs, M, L, Z, Cm, gs, m, a1, a2, a3, a4, a5, a6, a7, a8, a9, b1, b2, b3, r⟩ := D.ex
  have i : ∀ a xs, SqT K H a xs → SqT K H' a xs := fun _ _ z => sqt_chgS c nt z
  exact ⟨h, qa, b, ys, ls, zs, cs, M, L, Z, Cm, gs, m, c _ _ n1 a1, a2.imp i, a3.imp i, i _ _ a4, a5.imp i, c _ _ n2 a6, a7.imp i, c _ _ n3 a8, a9.imp i, c _ _ n4 b1, b2.imp i, c _ _ n5 b3, r⟩
theorem Dk.same {K : PySem.W.Frag} {C : Addr} {H H' : Hp} {p dx : Addr} {hv : V} {lv sn cm gn : Addr} {j : Nat} (D : Dk K C H p dx hv lv sn cm gn j) (s : Same H H') : Dk K C H' p dx hv lv sn cm gn j :=
  D.chg (S := []) (fun b o _ e => s b o e) (fun _ h => (List.not_mem_nil h).elim) List.not_mem_nil List.not_mem_nil List.not_mem_nil List.not_mem_nil List.not_mem_nil
theorem Dk.mono {K : PySem.W.Frag} {C : Addr} {H : Hp} {p dx : Addr} {hv : V} {lv sn cm gn : Addr} {i j : Nat} (D : Dk K C H p dx hv lv sn cm gn i) (le : i ≤ j) : Dk K C H p dx hv lv sn cm gn j := by
  obtain ⟨h, qa, b, ys, ls, zs, cs, M, L, Z, Cm, gs, m, a1, a2, a3, a4, a5, a6, a7, a8, a9, b1, b2, b3, b4, b5, b6, c1, c2, c3, c4⟩ := D.ex
  exact ⟨h, qa, b, ys, ls, zs, cs, M, L, Z, Cm, gs, m, a1, a2, a3, a4, a5, a6, a7, a8, a9, b1, b2, b3, b4, b5, b6, by omega, by omega, by omega, by omega⟩

end G0
namespace G0
open PySem PySem.Spec PyProof.Rows L2
/-! ### new places -/
def Fresh (L : List Addr) (H : Hp) : Prop := L.Nodup ∧ ∀ x ∈ L, H x ≠ none
theorem Fresh.nil {H : Hp} : Fresh [] H := ⟨List.nodup_nil, fun _ h => (List.not_mem_nil h).elim⟩
theorem Fresh.new {L : List Addr} {H : Hp} {q : Addr} {o : HO} (f : Fresh L H) (n : H q = none) : Fresh (q :: L) (upd H q o) := by
  refine ⟨List.nodup_cons.mpr ⟨fun m => f.2 q m n, f.1⟩, fun x hx => ?_⟩
  rcases List.mem_cons.mp hx with e | e
  · rw [e, upd_same]; exact fun z => by cases z
  · by_cases q' : x = q
    · rw [q', upd_same]; exact fun z => by cases z
    · rw [upd_ne q']; exact f.2 x e
theorem Fresh.same {L : List Addr} {H H' : Hp} (f : Fresh L H) (s : Same H H') : Fresh L H' := by
  refine ⟨f.1, fun x hx => ?_⟩
  cases e : H x with
  | none => exact (f.2 x hx e).elim
  | some u => rw [s x u e]; exact fun z => by cases z
theorem nd_at {L : List Addr} (h : L.Nodup) (i j : Nat) {a b : Addr} (hi : L[i]? = some a := by rfl) (hj : L[j]? = some b := by rfl) (n : i ≠ j := by decide) : a ≠ b := by
  intro e
  obtain ⟨hi1, hi2⟩ := List.getElem?_eq_some_iff.mp hi
  obtain ⟨hj1, hj2⟩ := List.getElem?_eq_some_iff.mp hj
  have all := List.pairwise_iff_getElem.mp h
  rcases Nat.lt_or_gt_of_ne n with l | l
  · exact all i j hi1 hj1 l (by rw [hi2, hj2, e])
  · exact all j i hj1 hi1 l (by rw [hi2, hj2, e])
theorem nd_set {a : Addr} : ∀ {L : List Addr} (i : Nat), L.Nodup → a ∉ L → (L.set i a).Nodup
  | [], _, _, _ => by simp
  | x :: L, 0, h, n => by
    obtain ⟨_, h2⟩ := List.nodup_cons.mp h
    exact List.nodup_cons.mpr ⟨fun m => n (List.mem_cons_of_mem _ m), h2⟩
  | x :: L, i + 1, h, n => by
    obtain ⟨h1, h2⟩ := List.nodup_cons.mp h
    refine List.nodup_cons.mpr ⟨fun m => ?_, nd_set i h2 fun m => n (List.mem_cons_of_mem _ m)⟩
    rcases List.mem_or_eq_of_mem_set m with z | z
    · exact h1 z
    · exact n (z ▸ List.mem_cons_self ..)
section
variable {P : Program} {w : World} {K : PySem.W.Frag} {mg : Str → Option Value} {base : Heap} {C : Addr}
def spLaw (K : PySem.W.Frag) : Sp := fun vs H Q _ => ∃ (a : Addr) (ns : List Int), vs = [.ref a] ∧ SqL K H a (ns.map V.int) ∧ ns.length ≤ 63 ∧ (∀ z ∈ ns, Builtin.Int.intBits z ≤ 1048576) ∧ ∀ H', Q (.bl true) H'
/-- what stands between two deeds -/
structure Wd (K : PySem.W.Frag) (C : Addr) (G : Hp) (cs : List Int) (l D Hd Lv Sn Cm Gn p0 p1 dx0 dx1 : Addr) (hv0 hv1 : V) (lv0 lv1 sn0 sn1 cm0 cm1 gn0 gn1 : Addr) (j : Nat) : Prop where
  nd : [l, Gn, gn1, gn0, Cm, cm1, cm0, Sn, sn1, sn0, Lv, lv1, lv0, Hd, D, p1, p0].Nodup
  ol : G l = some (.lst (cs.map V.int))
  oD : G D = some (.lst [.ref p0, .ref p1])
  oH : G Hd = some (.lst [hv0, hv1])
  oL : G Lv = some (.lst [.ref lv0, .ref lv1])
  oS : G Sn = some (.lst [.ref sn0, .ref sn1])
  oC : G Cm = some (.lst [.ref cm0, .ref cm1])
  oG : G Gn = some (.lst [.ref gn0, .ref gn1])
  d0 : Dk K C G p0 dx0 hv0 lv0 sn0 cm0 gn0 j
  d1 : Dk K C G p1 dx1 hv1 lv1 sn1 cm1 gn1 j
theorem Dk.next {G : Hp} {p dx : Addr} {hv : V} {lv sn cm gn : Addr} {j : Nat} (D : Dk K C G p dx hv lv sn cm gn j) : Dk K C G p dx hv lv sn cm gn (j + 1) := D.mono (Nat.le_succ j)
theorem Wd.same {G G' : Hp} {cs : List Int} {l D Hd Lv Sn Cm Gn p0 p1 dx0 dx1 : Addr} {hv0 hv1 : V} {lv0 lv1 sn0 sn1 cm0 cm1 gn0 gn1 : Addr} {j : Nat}
    (W : Wd K C G cs l D Hd Lv Sn Cm Gn p0 p1 dx0 dx1 hv0 hv1 lv0 lv1 sn0 sn1 cm0 cm1 gn0 gn1 j) (s : Same G G') : Wd K C G' cs l D Hd Lv Sn Cm Gn p0 p1 dx0 dx1 hv0 hv1 lv0 lv1 sn0 sn1 cm0 cm1 gn0 gn1 j :=
  ⟨W.nd, s _ _ W.ol, s _ _ W.oD, s _ _ W.oH, s _ _ W.oL, s _ _ W.oS, s _ _ W.oC, s _ _ W.oG, W.d0.same s, W.d1.same s⟩
theorem Wd.next {G : Hp} {cs : List Int} {l D Hd Lv Sn Cm Gn p0 p1 dx0 dx1 : Addr} {hv0 hv1 : V} {lv0 lv1 sn0 sn1 cm0 cm1 gn0 gn1 : Addr} {j : Nat}
    (W : Wd K C G cs l D Hd Lv Sn Cm Gn p0 p1 dx0 dx1 hv0 hv1 lv0 lv1 sn0 sn1 cm0 cm1 gn0 gn1 j) : Wd K C G cs l D Hd Lv Sn Cm Gn p0 p1 dx0 dx1 hv0 hv1 lv0 lv1 sn0 sn1 cm0 cm1 gn0 gn1 (j + 1) :=
  ⟨W.nd, W.ol, W.oD, W.oH, W.oL, W.oS, W.oC, W.oG, W.d0.mono (Nat.le_succ j), W.d1.mono (Nat.le_succ j)⟩
theorem don_pos {m : Option (List Int)} {x : Addr} {n : List Int} (hf : freedB m (.don x n) = true) (mn : m ≠ none) : m = some n := by
  cases m with
  | none => exact absurd rfl mn
  | some k => simpa [freedB] using hf
theorem don_neg {m : Option (List Int)} {x : Addr} {n : List Int} (hf : freedB m (.don x n) = false) : ∃ k, m = some k ∧ (fun k => !decide (k = n)) k = true ∧ m ≠ some n := by
  cases m with
  | none => simp [freedB] at hf
  | some k =>
    have : k ≠ n := by simpa [freedB] using hf
    exact ⟨k, rfl, by simp [this], by simp [this]⟩
theorem gone_pos {m : Option (List Int)} {v : Int} (hf : freedB m (.gone v) = true) (mn : m ≠ none) : isSeat m v = true := by
  cases m with
  | none => exact absurd rfl mn
  | some k => simpa [freedB] using hf
theorem gone_neg {m : Option (List Int)} {v : Int} (hf : freedB m (.gone v) = false) : ∃ k, m = some k ∧ (fun k => !decide (seatN k = v)) k = true ∧ ¬ (isSeat m v = true) := by
  cases m with
  | none => simp [freedB] at hf
  | some k =>
    have : seatN k ≠ v := by simpa [freedB, isSeat] using hf
    exact ⟨k, rfl, by simp [this], by simp [isSeat, this]⟩
theorem done_perm {L M : List (List Int)} {m : Option (List Int)} {n : List Int} {Cm : List (List Int)} (D : Dat L M m Cm) (e : m = some n) : M.Perm (L.filter fun k => !decide (k = n)) := by
  subst e; exact D.done
theorem gone_perm {L M : List (List Int)} {m : Option (List Int)} {v : Int} {Cm : List (List Int)} (D : Dat L M m Cm) (e : isSeat m v = true) : (M.filter fun k => !decide (seatN k = v)).Perm (L.filter fun k => !decide (seatN k = v)) := by
  cases m with
  | none => simp [isSeat] at e
  | some k =>
    have : seatN k = v := by simpa [isSeat] using e
    exact D.gone _ (by simp [this])
theorem seven {ds : List Int} (h : ds.length = 7) : ∃ a b c d e f g, ds = [a, b, c, d, e, f, g] :=
  match ds, h with
  | [a, b, c, d, e, f, g], _ => ⟨a, b, c, d, e, f, g, rfl⟩
def pr0 (x y : V) : List V := [x, y]
def pr1 (x y : V) : List V := [y, x]
theorem Wd.all {G : Hp} {cs : List Int} {l D Hd Lv Sn Cm Gn p0 p1 dx0 dx1 : Addr} {hv0 hv1 : V} {lv0 lv1 sn0 sn1 cm0 cm1 gn0 gn1 : Addr} {j : Nat}
    (W : Wd K C G cs l D Hd Lv Sn Cm Gn p0 p1 dx0 dx1 hv0 hv1 lv0 lv1 sn0 sn1 cm0 cm1 gn0 gn1 j) : ∀ x ∈ [l, Gn, gn1, gn0, Cm, cm1, cm0, Sn, sn1, sn0, Lv, lv1, lv0, Hd, D, p1, p0], G x ≠ none := by
  obtain ⟨_, _, _, _, _, _, _, _, _, _, _, _, _, a1, _, _, _, _, a6, _, a8, _, b1, _, b3, _⟩ := W.d0.ex
  obtain ⟨_, _, _, _, _, _, _, _, _, _, _, _, _, c1, _, _, _, _, c6, _, c8, _, d1, _, d3, _⟩ := W.d1.ex
  intro x hx
  simp only [List.mem_cons, List.not_mem_nil, or_false] at hx
  rcases hx with rfl | rfl | rfl | rfl | rfl | rfl | rfl | rfl | rfl | rfl | rfl | rfl | rfl | rfl | rfl | rfl | rfl <;> intro z <;>
    first | (rw [W.ol] at z; cases z) | (rw [W.oG] at z; cases z) | (rw [W.oC] at z; cases z) | (rw [W.oS] at z; cases z) | (rw [W.oL] at z; cases z) | (rw [W.oH] at z; cases z) | (rw [W.oD] at z; cases z) |
      (rw [a1] at z; cases z) | (rw [a6] at z; cases z) | (rw [a8] at z; cases z) | (rw [b1] at z; cases z) | (rw [b3] at z; cases z) | (rw [c1] at z; cases z) | (rw [c6] at z; cases z) | (rw [c8] at z; cases z) | (rw [d1] at z; cases z) | (rw [d3] at z; cases z)
theorem min_first {L M : List (List Int)} {nx n : List Int} (p : (nx :: M).Perm L) (u : Up (nx :: M)) (st : ∀ k ∈ L, StN k) (hn : n ∈ L) (least : ∀ k ∈ L, TS.code (10 ^ 41) n ≤ TS.code (10 ^ 41) k) : nx = n := by
  have hx : nx ∈ L := p.mem_iff.mp (List.mem_cons_self ..)
  have s1 := st nx hx
  have s2 := st n hn
  refine code_inj (s1.1.trans s2.1.symm) s1.2 s2.2 (Int.le_antisymm ?_ (least nx hx))
  rcases List.mem_cons.mp (p.mem_iff.mpr hn) with e | e
  · rw [e]; exact Int.le_refl _
  · exact (List.pairwise_cons.mp u).1 n e
theorem dk_new {G : Hp} {p dx lv sn cm gn : Addr} (hp : ∃ qa, G p = some (.ins C dx (deskF .non (.ref qa) false)) ∧ SqT K G qa []) (h1 : G lv = some (.lst [])) (h2 : G sn = some (.lst [])) (h3 : G cm = some (.lst [])) (h4 : G gn = some (.lst [])) : Dk K C G p dx .non lv sn cm gn 0 := by
  obtain ⟨qa, hp, hq⟩ := hp
  exact ⟨.non, qa, false, [], [], [], [], [], [], [], [], [], none, hp, .inl ⟨rfl, rfl⟩, .inl ⟨rfl, rfl⟩, hq, .nil, h1, .nil, h2, .nil, h3, .nil, h4, by simp, Dat.empty, fun _ => rfl, Nat.le_refl _, Nat.le_refl _, Nat.le_refl _, Nat.le_refl _⟩
theorem last_look {G : Hp} {cs : List Int} {a l D Hd Lv Sn Cm Gn p0 p1 dx0 dx1 : Addr} {hv0 hv1 : V} {lv0 lv1 sn0 sn1 cm0 cm1 gn0 gn1 : Addr} {j : Nat} {N : Ends} {z1 z2 z3 z4 z5 z6 z7 z8 z9 z10 z11 : Option V}
    (W : Wd K C G cs l D Hd Lv Sn Cm Gn p0 p1 dx0 dx1 hv0 hv1 lv0 lv1 sn0 sn1 cm0 cm1 gn0 gn1 j) (jl : j < 64)
    (k : ∀ σ' G', (∃ z1 z2 z3 z4 z5 z6 z7 z8 z9 z10 z11 : Option V, σ' = [some (V.ref a), some (V.ref D), some (V.ref Hd), some (V.ref Lv), some (V.ref Sn), some (V.ref Cm), some (V.ref Gn), z1, z2, z3, z4, z5, z6, z7, z8, z9, z10, z11]) → Same G G' → N.nx σ' G') :
    tFor (iRng1 (tCons (tC (.int 2)) tNil)) (gName 17) (tIfS (tNot (tB (tCall (spDesk K C) [] E0 (tCons (tOp (rIxL K) (tVar 1) (tVar 17)) (tCons (tOp (rIxL K) (tVar 2) (tVar 17)) (tCons (tOp (rIxL K) (tVar 3) (tVar 17)) (tCons (tOp (rIxL K) (tVar 4) (tVar 17)) tNil)))))))
      (tRet (tC (.bl false))) tNext) N [some (V.ref a), some (V.ref D), some (V.ref Hd), some (V.ref Lv), some (V.ref Sn), some (V.ref Cm), some (V.ref Gn), z1, z2, z3, z4, z5, z6, z7, z8, z9, z10, z11] G := by
  refine ⟨2, rfl, by decide, by decide, ?_⟩
  refine for_range (lo := 0) (n := 2) (fun _ σ G2 => (∃ z1 z2 z3 z4 z5 z6 z7 z8 z9 z10 z11 : Option V, σ = [some (V.ref a), some (V.ref D), some (V.ref Hd), some (V.ref Lv), some (V.ref Sn), some (V.ref Cm), some (V.ref Gn), z1, z2, z3, z4, z5, z6, z7, z8, z9, z10, z11]) ∧ Same G G2)
    ⟨⟨_, _, _, _, _, _, _, _, _, _, _, rfl⟩, Same.refl G⟩ ?_ (fun σ G2 h => k σ G2 h.1 h.2)
  rintro i σ G2 hi ⟨⟨z1, z2, z3, z4, z5, z6, z7, z8, z9, z10, z11, rfl⟩, s⟩
  have W2 := W.same s
  have i2 : i = 0 ∨ i = 1 := by omega
  rcases i2 with rfl | rfl
  · skip
    obtain ⟨h, qa, b, ys, ls, zs, cs2, M, L, Z, Cd, gs, m, hp, hh, hhv, hq, hM, hlv, hL, hsn, hZ, hcm, hC, hgn, hbz, dat, zn, lenL, lenZ, lenC, lenG⟩ := W2.d0.ex
    refine ⟨_, rfl, _, rfl, D, _, _, _, rfl, rfl, SqL.of W2.oD, at0 rfl, _, rfl, _, rfl, Hd, _, _, _, rfl, rfl, SqL.of W2.oH, at0 rfl, _, rfl, _, rfl, Lv, _, _, _, rfl, rfl, SqL.of W2.oL, at0 rfl, _, rfl, _, rfl, Sn, _, _, _, rfl, rfl, SqL.of W2.oS, at0 rfl, ?_⟩
    refine ⟨p0, dx0, qa, lv0, sn0, h, hv0, b, ys, ls, zs, M, L, Z, m, rfl, hp, hh, hhv, hq, hM, hlv, hL, by omega, hsn, hZ, hbz, dat.rest (fun k hk => hL.st k hk), fun G3 s3 => ?_⟩
    refine ⟨_, rfl, iteF' rfl ?_⟩
    exact ⟨⟨_, _, _, _, _, _, _, _, _, _, _, rfl⟩, s.trans s3⟩
  · skip
    obtain ⟨h, qa, b, ys, ls, zs, cs2, M, L, Z, Cd, gs, m, hp, hh, hhv, hq, hM, hlv, hL, hsn, hZ, hcm, hC, hgn, hbz, dat, zn, lenL, lenZ, lenC, lenG⟩ := W2.d1.ex
    refine ⟨_, rfl, _, rfl, D, _, _, _, rfl, rfl, SqL.of W2.oD, at1 rfl, _, rfl, _, rfl, Hd, _, _, _, rfl, rfl, SqL.of W2.oH, at1 rfl, _, rfl, _, rfl, Lv, _, _, _, rfl, rfl, SqL.of W2.oL, at1 rfl, _, rfl, _, rfl, Sn, _, _, _, rfl, rfl, SqL.of W2.oS, at1 rfl, ?_⟩
    refine ⟨p1, dx1, qa, lv1, sn1, h, hv1, b, ys, ls, zs, M, L, Z, m, rfl, hp, hh, hhv, hq, hM, hlv, hL, by omega, hsn, hZ, hbz, dat.rest (fun k hk => hL.st k hk), fun G3 s3 => ?_⟩
    refine ⟨_, rfl, iteF' rfl ?_⟩
    exact ⟨⟨_, _, _, _, _, _, _, _, _, _, _, rfl⟩, s.trans s3⟩
theorem sc_law : FnScope ["script", "desks", "held", "live", "since", "came", "gone", "cell", "at", "way", "pick", "low", "many", "seat", "turn", "deed", "due", "k"] ["script"] (defScope s_law) :=
  ⟨rfl, rfl, rfl, by decide +kernel, rfl, by decide +kernel, by decide +kernel⟩
set_option maxHeartbeats 0 in
theorem ok_law (F : Fn K mg "law" s_law) (T : BlD mg) (S : DeskT K mg C) (C_desk : Cal P w K mg base "_law_desk" 5 ["desk", "held", "live", "since"] (spDesk K C))
    (C_cells : Cal P w K mg base "_law_cells" 1 ["script", "start"] (spCells K)) (C_stamp : Cal P w K mg base "_law_stamp" 1 ["low", "many", "seat", "turn"] (spStamp K))
    (C_draws : Cal P w K mg base "_law_draws" 1 ["cell", "tops"] spDraws) (C_deed : Cal P w K mg base "_law_deed" 1 ["way", "pick", "held", "live", "fresh"] (spDeed K))
    (C_fits : Cal P w K mg base "_law_fits" 1 ["deed", "came", "gone"] (spFits K)) (C_told : Cal P w K mg base "_law_told" 3 ["desk", "deed"] (spTold K C))
    (C_live_behind : Cal P w K mg base "_law_live_behind" 1 ["live", "deed"] (spLiveB K)) (C_freed : Cal P w K mg base "_law_freed" 1 ["held", "deed"] (spFreed K))
    (C_same : Cal P w K mg base "_law_same" 4 ["found", "due"] (spSameD K 3))
    (MK : ∃ f fd, FnOk P w K mg base CX0 1 f fd ["self"] (spDInit C) ∧ Binds K fd ["self"] [] ∧ Mk K C f) : Cal P w K mg base "law" 6 ["script"] (spLaw K) := by
  obtain ⟨fI, fdI, GI, bI, MI⟩ := MK
  refine cal_of F sc_law
    (fun _ _ _ _ _ _ us hl => match us, hl with | [_], _ => rfl) ?_ ?_
  · rintro vs H Q E ⟨a, ns, rfl, _⟩
    rfl
  rintro f cdv A outer s H vs Q E free hr ⟨a, ns, rfl, hS, len, bits, q⟩
  have hr2 : Room 2 _ := hr.mono (by decide)
  refine ⟨_, (pss_cons (ps_set (i := 1) sc_law.nd rfl (Or.inl rfl) (pe_lst (pa_cons (pe_make0 MI GI hr2 (by rfl) S.mgC bI .nil pass0) (pa_cons (pe_make0 MI GI hr2 (by rfl) S.mgC bI .nil pass0) pa_nil))))
    (pss_cons (ps_set (i := 2) sc_law.nd rfl (Or.inl rfl) (pe_lst (pa_cons pe_non (pa_cons pe_non pa_nil))))
    (pss_cons (ps_set (i := 3) sc_law.nd rfl (Or.inl rfl) (pe_lst (pa_cons (pe_lst pa_nil) (pa_cons (pe_lst pa_nil) pa_nil))))
    (pss_cons (ps_set (i := 4) sc_law.nd rfl (Or.inl rfl) (pe_lst (pa_cons (pe_lst pa_nil) (pa_cons (pe_lst pa_nil) pa_nil))))
    (pss_cons (ps_set (i := 5) sc_law.nd rfl (Or.inl rfl) (pe_lst (pa_cons (pe_lst pa_nil) (pa_cons (pe_lst pa_nil) pa_nil))))
    (pss_cons (ps_set (i := 6) sc_law.nd rfl (Or.inl rfl) (pe_lst (pa_cons (pe_lst pa_nil) (pa_cons (pe_lst pa_nil) pa_nil))))
    (pss_cons (ps_for PassesOwn.never rfl (pi_list (pe_cal C_cells free (hr.mono (by decide)) (pa_cons (pv 0) (pa_cons pe_int pa_nil)))) (pg_name (i := 7) sc_law.nd rfl (Or.inl rfl))
    (pss_cons (ps_asg (pe_cal C_draws free (hr.mono (by decide)) (pa_cons (pv 7) (pa_cons (pe_lst (pa_cons pe_int (pa_cons pe_int (pa_cons pe_int (pa_cons pe_int (pa_cons (pe_op op_pow pe_int pe_int) (pa_cons pe_int (pa_cons pe_int pa_nil)))))))) pa_nil))) (pg_unl (by rfl) (pgs_cons (pg_name (i := 8) sc_law.nd rfl (Or.inl rfl)) (pgs_cons (pg_name (i := 9) sc_law.nd rfl (Or.inl rfl)) (pgs_cons (pg_name (i := 10) sc_law.nd rfl (Or.inl rfl)) (pgs_cons (pg_name (i := 11) sc_law.nd rfl (Or.inl rfl)) (pgs_cons (pg_name (i := 12) sc_law.nd rfl (Or.inl rfl)) (pgs_cons (pg_name (i := 13) sc_law.nd rfl (Or.inl rfl)) (pgs_cons (pg_name (i := 14) sc_law.nd rfl (Or.inl rfl)) pgs_nil)))))))))
    (pss_cons (ps_set (i := 15) sc_law.nd rfl (Or.inl rfl) (pe_cal C_deed free (hr.mono (by decide)) (pa_cons (pv 9) (pa_cons (pv 10) (pa_cons (pe_ix ix_list (pv 2) (pv 8) (fun _ _ => rfl)) (pa_cons (pe_ix ix_list (pv 3) (pv 8) (fun _ _ => rfl)) (pa_cons (pe_cal C_stamp free (hr.mono (by decide)) (pa_cons (pv 11) (pa_cons (pv 12) (pa_cons (pv 13) (pa_cons (pv 14) pa_nil))))) pa_nil)))))))
    (pss_cons (ps_if (pt_val (pe_cal C_fits free (hr.mono (by decide)) (pa_cons (pv 15) (pa_cons (pe_ix ix_list (pv 5) (pv 8) (fun _ _ => rfl)) (pa_cons (pe_ix ix_list (pv 6) (pv 8) (fun _ _ => rfl)) pa_nil)))))
    (pss_cons (ps_set (i := 16) sc_law.nd rfl (Or.inl rfl) (pe_lst pa_nil))
    (pss_cons (ps_asg (pe_cal C_live_behind free (hr.mono (by decide)) (pa_cons (pe_ix ix_list (pv 3) (pv 8) (fun _ _ => rfl)) (pa_cons (pv 15) pa_nil))) (pg_sub (pv 3) (pv 8) set_list))
    (pss_cons (ps_if (pt_cmpR op_eq (pe_ix ix_tup (pv 15) pe_int (fun _ _ => rfl)) pe_str (nomark _))
    (pss_one (ps_expr (pe_bm PySem.F.plainAttrs_list PySem.F.slot_list_append PySem.F.type_list_append mt_append (pe_ix ix_list (pv 5) (pv 8) (fun _ _ => rfl)) (pa_cons (pe_ix ix_tup (pv 15) pe_int (fun _ _ => rfl)) pa_nil))))
    pss_nil)
    (pss_cons (ps_if (pt_cmpR op_eq (pe_ix ix_tup (pv 15) pe_int (fun _ _ => rfl)) pe_str (nomark _))
    (pss_one (ps_expr (pe_bm PySem.F.plainAttrs_list PySem.F.slot_list_append PySem.F.type_list_append mt_append (pe_ix ix_list (pv 6) (pv 8) (fun _ _ => rfl)) (pa_cons (pe_ix ix_tup (pv 15) pe_int (fun _ _ => rfl)) pa_nil))))
    pss_nil)
    (pss_cons (ps_if (pt_val (pe_cal C_freed free (hr.mono (by decide)) (pa_cons (pe_ix ix_list (pv 2) (pv 8) (fun _ _ => rfl)) (pa_cons (pv 15) pa_nil))))
    (pss_cons (ps_asg (pe_lst pa_nil) (pg_sub (pv 4) (pv 8) set_list))
    (pss_cons (ps_asg (pe_callBK (cr_minD (by rfl) (u64 hr)) (by rfl) T.min (by decide +kernel) (pa_cons (pe_ix ix_list (pv 3) (pv 8) (fun _ _ => rfl)) pa_nil) (pk_cons pe_non pk_nil)) (pg_sub (pv 2) (pv 8) set_list))
    (pss_one (ps_if (pt_cmpR (op_neD (u64 hr)) (pe_ix ix_list (pv 3) (pv 8) (fun _ _ => rfl)) (pe_lst pa_nil) (nomark _))
    (pss_one (ps_set (i := 16) sc_law.nd rfl (Or.inl rfl) (pe_lst (pa_cons (pe_tup (pa_cons pe_str (pa_cons (pe_ix ix_list (pv 2) (pv 8) (fun _ _ => rfl)) pa_nil))) pa_nil))))
    pss_nil))))
    (pss_one (ps_if (PW.pt (pw_and (pt_cmpR op_eq (pe_ix ix_tup (pv 15) pe_int (fun _ _ => rfl)) pe_str (nomark _)) (pw_and1 (pt_cmpR (op_ltT (u0 hr)) (pe_ix ix_tup (pv 15) pe_int (fun _ _ => rfl)) (pe_ix ix_list (pv 2) (pv 8) (fun _ _ => rfl)) (nomark _)))))
    (pss_cons (ps_if (pt_cmpR (op_eqD (u64 hr)) (pe_ix ix_list (pv 4) (pv 8) (fun _ _ => rfl)) (pe_lst pa_nil) (nomark _))
    (pss_one (ps_set (i := 16) sc_law.nd rfl (Or.inl rfl) (pe_lst (pa_cons (pe_tup (pa_cons pe_str (pa_cons (pe_ix ix_list (pv 2) (pv 8) (fun _ _ => rfl)) pa_nil))) pa_nil))))
    pss_nil)
    (pss_one (ps_expr (pe_bm PySem.F.plainAttrs_list PySem.F.slot_list_append PySem.F.type_list_append mt_append (pe_ix ix_list (pv 4) (pv 8) (fun _ _ => rfl)) (pa_cons (pe_ix ix_tup (pv 15) pe_int (fun _ _ => rfl)) pa_nil)))))
    pss_nil)))
    (pss_one (ps_if (pt_not (pt_val (pe_cal C_same free (hr.mono (by decide)) (pa_cons (pe_cal C_told free (hr.mono (by decide)) (pa_cons (pe_ix ix_list (pv 1) (pv 8) (fun _ _ => rfl)) (pa_cons (pv 15) pa_nil))) (pa_cons (pv 16) pa_nil)))))
    (pss_one (ps_ret pe_bl))
    pss_nil)))))))
    pss_nil)
    (pss_one (ps_for PassesOwn.never rfl (pi_range1 (by rfl) T.range (pa_cons pe_int pa_nil)) (pg_name (i := 17) sc_law.nd rfl (Or.inl rfl))
    (pss_one (ps_if (pt_not (pt_val (pe_cal C_desk free (hr.mono (by decide)) (pa_cons (pe_ix ix_list (pv 1) (pv 17) (fun _ _ => rfl)) (pa_cons (pe_ix ix_list (pv 2) (pv 17) (fun _ _ => rfl)) (pa_cons (pe_ix ix_list (pv 3) (pv 17) (fun _ _ => rfl)) (pa_cons (pe_ix ix_list (pv 4) (pv 17) (fun _ _ => rfl)) pa_nil)))))))
    (pss_one (ps_ret pe_bl))
    pss_nil))))))))
    (pss_one (ps_ret pe_bl))))))))), ?_⟩
  have fH : Fresh [] H := Fresh.nil
  intro p0 dx0 np0 ndx0 ne0
  refine ⟨p0, dx0, rfl, upd_same, ?_⟩
  intro qa0 A1 hq0 hv0 hp0 cA1
  refine ⟨rfl, ?_⟩
  have sIA1 : Same H (upd (upd H dx0 (.own p0)) p0 (.ins C dx0 [])) := (same_upd ndx0).trans (same_upd (by rw [upd_ne ne0.symm]; exact np0))
  have sA1 : Same H A1 := fun b o e => cA1 _ _ (ne_of_none e np0) (sIA1 _ _ e)
  have fA1 : Fresh (p0 :: ([] : List Addr)) A1 := ⟨List.nodup_cons.mpr ⟨fun m => fH.2 _ m np0, fH.1⟩, fun x hx => by
    rcases List.mem_cons.mp hx with e | e
    · rw [e, hp0]; exact fun z => by cases z
    · exact (fH.same sA1).2 x e⟩
  intro p1 dx1 np1 ndx1 ne1
  refine ⟨p1, dx1, rfl, upd_same, ?_⟩
  intro qa1 A2 hq1 hv1 hp1 cA2
  refine ⟨rfl, ?_⟩
  have sIA2 : Same A1 (upd (upd A1 dx1 (.own p1)) p1 (.ins C dx1 [])) := (same_upd ndx1).trans (same_upd (by rw [upd_ne ne1.symm]; exact np1))
  have sA2 : Same A1 A2 := fun b o e => cA2 _ _ (ne_of_none e np1) (sIA2 _ _ e)
  have fA2 : Fresh (p1 :: [p0]) A2 := ⟨List.nodup_cons.mpr ⟨fun m => fA1.2 _ m np1, fA1.1⟩, fun x hx => by
    rcases List.mem_cons.mp hx with e | e
    · rw [e, hp1]; exact fun z => by cases z
    · exact (fA1.same sA2).2 x e⟩
  have vp0 : A2 p0 = some (.ins C dx0 (deskF .non (.ref qa0) false)) := sA2 _ _ hp0
  refine ⟨by show 2 ≤ sizeLine; decide, fun D hD => ?_⟩
  obtain ⟨A3, eA3⟩ : ∃ A3, A3 = upd A2 D (.lst [.ref p0, .ref p1]) := ⟨_, rfl⟩
  rw [← eA3]
  have sA3 : Same A2 A3 := by rw [eA3]; exact same_upd hD
  have fA3 := Fresh.new (o := (.lst [.ref p0, .ref p1])) fA2 hD
  rw [← eA3] at fA3
  have vD : A3 D = some (.lst [.ref p0, .ref p1]) := by rw [eA3]; exact upd_same
  refine ⟨by show 2 ≤ sizeLine; decide, fun Hd hHd => ?_⟩
  obtain ⟨A4, eA4⟩ : ∃ A4, A4 = upd A3 Hd (.lst [.non, .non]) := ⟨_, rfl⟩
  rw [← eA4]
  have sA4 : Same A3 A4 := by rw [eA4]; exact same_upd hHd
  have fA4 := Fresh.new (o := (.lst [.non, .non])) fA3 hHd
  rw [← eA4] at fA4
  have vHd : A4 Hd = some (.lst [.non, .non]) := by rw [eA4]; exact upd_same
  refine ⟨Nat.zero_le _, fun lv0 hlv0 => ?_⟩
  obtain ⟨A4a, eA4a⟩ : ∃ A4a, A4a = upd A4 lv0 (.lst []) := ⟨_, rfl⟩
  rw [← eA4a]
  have sA4a : Same A4 A4a := by rw [eA4a]; exact same_upd hlv0
  have fA4a := Fresh.new (o := (.lst [])) fA4 hlv0
  rw [← eA4a] at fA4a
  have vlv0 : A4a lv0 = some (.lst []) := by rw [eA4a]; exact upd_same
  refine ⟨Nat.zero_le _, fun lv1 hlv1 => ?_⟩
  obtain ⟨A4b, eA4b⟩ : ∃ A4b, A4b = upd A4a lv1 (.lst []) := ⟨_, rfl⟩
  rw [← eA4b]
  have sA4b : Same A4a A4b := by rw [eA4b]; exact same_upd hlv1
  have fA4b := Fresh.new (o := (.lst [])) fA4a hlv1
  rw [← eA4b] at fA4b
  have vlv1 : A4b lv1 = some (.lst []) := by rw [eA4b]; exact upd_same
  refine ⟨by show 2 ≤ sizeLine; decide, fun Lv hLv => ?_⟩
  obtain ⟨A5, eA5⟩ : ∃ A5, A5 = upd A4b Lv (.lst [.ref lv0, .ref lv1]) := ⟨_, rfl⟩
  rw [← eA5]
  have sA5 : Same A4b A5 := by rw [eA5]; exact same_upd hLv
  have fA5 := Fresh.new (o := (.lst [.ref lv0, .ref lv1])) fA4b hLv
  rw [← eA5] at fA5
  have vLv : A5 Lv = some (.lst [.ref lv0, .ref lv1]) := by rw [eA5]; exact upd_same
  have tA5 : Same A4 A5 := (sA4a.trans sA4b).trans sA5
  refine ⟨Nat.zero_le _, fun sn0 hsn0 => ?_⟩
  obtain ⟨A5a, eA5a⟩ : ∃ A5a, A5a = upd A5 sn0 (.lst []) := ⟨_, rfl⟩
  rw [← eA5a]
  have sA5a : Same A5 A5a := by rw [eA5a]; exact same_upd hsn0
  have fA5a := Fresh.new (o := (.lst [])) fA5 hsn0
  rw [← eA5a] at fA5a
  have vsn0 : A5a sn0 = some (.lst []) := by rw [eA5a]; exact upd_same
  refine ⟨Nat.zero_le _, fun sn1 hsn1 => ?_⟩
  obtain ⟨A5b, eA5b⟩ : ∃ A5b, A5b = upd A5a sn1 (.lst []) := ⟨_, rfl⟩
  rw [← eA5b]
  have sA5b : Same A5a A5b := by rw [eA5b]; exact same_upd hsn1
  have fA5b := Fresh.new (o := (.lst [])) fA5a hsn1
  rw [← eA5b] at fA5b
  have vsn1 : A5b sn1 = some (.lst []) := by rw [eA5b]; exact upd_same
  refine ⟨by show 2 ≤ sizeLine; decide, fun Sn hSn => ?_⟩
  obtain ⟨A6, eA6⟩ : ∃ A6, A6 = upd A5b Sn (.lst [.ref sn0, .ref sn1]) := ⟨_, rfl⟩
  rw [← eA6]
  have sA6 : Same A5b A6 := by rw [eA6]; exact same_upd hSn
  have fA6 := Fresh.new (o := (.lst [.ref sn0, .ref sn1])) fA5b hSn
  rw [← eA6] at fA6
  have vSn : A6 Sn = some (.lst [.ref sn0, .ref sn1]) := by rw [eA6]; exact upd_same
  have tA6 : Same A5 A6 := (sA5a.trans sA5b).trans sA6
  refine ⟨Nat.zero_le _, fun cm0 hcm0 => ?_⟩
  obtain ⟨A6a, eA6a⟩ : ∃ A6a, A6a = upd A6 cm0 (.lst []) := ⟨_, rfl⟩
  rw [← eA6a]
  have sA6a : Same A6 A6a := by rw [eA6a]; exact same_upd hcm0
  have fA6a := Fresh.new (o := (.lst [])) fA6 hcm0
  rw [← eA6a] at fA6a
  have vcm0 : A6a cm0 = some (.lst []) := by rw [eA6a]; exact upd_same
  refine ⟨Nat.zero_le _, fun cm1 hcm1 => ?_⟩
  obtain ⟨A6b, eA6b⟩ : ∃ A6b, A6b = upd A6a cm1 (.lst []) := ⟨_, rfl⟩
  rw [← eA6b]
  have sA6b : Same A6a A6b := by rw [eA6b]; exact same_upd hcm1
  have fA6b := Fresh.new (o := (.lst [])) fA6a hcm1
  rw [← eA6b] at fA6b
  have vcm1 : A6b cm1 = some (.lst []) := by rw [eA6b]; exact upd_same
  refine ⟨by show 2 ≤ sizeLine; decide, fun Cm hCm => ?_⟩
  obtain ⟨A7, eA7⟩ : ∃ A7, A7 = upd A6b Cm (.lst [.ref cm0, .ref cm1]) := ⟨_, rfl⟩
  rw [← eA7]
  have sA7 : Same A6b A7 := by rw [eA7]; exact same_upd hCm
  have fA7 := Fresh.new (o := (.lst [.ref cm0, .ref cm1])) fA6b hCm
  rw [← eA7] at fA7
  have vCm : A7 Cm = some (.lst [.ref cm0, .ref cm1]) := by rw [eA7]; exact upd_same
  have tA7 : Same A6 A7 := (sA6a.trans sA6b).trans sA7
  refine ⟨Nat.zero_le _, fun gn0 hgn0 => ?_⟩
  obtain ⟨A7a, eA7a⟩ : ∃ A7a, A7a = upd A7 gn0 (.lst []) := ⟨_, rfl⟩
  rw [← eA7a]
  have sA7a : Same A7 A7a := by rw [eA7a]; exact same_upd hgn0
  have fA7a := Fresh.new (o := (.lst [])) fA7 hgn0
  rw [← eA7a] at fA7a
  have vgn0 : A7a gn0 = some (.lst []) := by rw [eA7a]; exact upd_same
  refine ⟨Nat.zero_le _, fun gn1 hgn1 => ?_⟩
  obtain ⟨A7b, eA7b⟩ : ∃ A7b, A7b = upd A7a gn1 (.lst []) := ⟨_, rfl⟩
  rw [← eA7b]
  have sA7b : Same A7a A7b := by rw [eA7b]; exact same_upd hgn1
  have fA7b := Fresh.new (o := (.lst [])) fA7a hgn1
  rw [← eA7b] at fA7b
  have vgn1 : A7b gn1 = some (.lst []) := by rw [eA7b]; exact upd_same
  refine ⟨by show 2 ≤ sizeLine; decide, fun Gn hGn => ?_⟩
  obtain ⟨A8, eA8⟩ : ∃ A8, A8 = upd A7b Gn (.lst [.ref gn0, .ref gn1]) := ⟨_, rfl⟩
  rw [← eA8]
  have sA8 : Same A7b A8 := by rw [eA8]; exact same_upd hGn
  have fA8 := Fresh.new (o := (.lst [.ref gn0, .ref gn1])) fA7b hGn
  rw [← eA8] at fA8
  have vGn : A8 Gn = some (.lst [.ref gn0, .ref gn1]) := by rw [eA8]; exact upd_same
  have tA8 : Same A7 A8 := (sA7a.trans sA7b).trans sA8
  have sH8 : Same H A8 := ((((((sA1.trans sA2).trans sA3).trans sA4).trans tA5).trans tA6).trans tA7).trans tA8
  refine ⟨_, rfl, a, ns, rfl, sH8.seq hS, len, bits, fun l A9 cs hl s9 hcs lc bc => ?_⟩
  have s39 : Same A3 A9 := ((((sA4.trans tA5).trans tA6).trans tA7).trans tA8).trans s9
  have s59 : Same A5 A9 := ((tA6.trans tA7).trans tA8).trans s9
  have s69 : Same A6 A9 := (tA7.trans tA8).trans s9
  have s79 : Same A7 A9 := tA8.trans s9
  have s29 : Same A2 A9 := sA3.trans s39
  have f9 : Fresh [l, Gn, gn1, gn0, Cm, cm1, cm0, Sn, sn1, sn0, Lv, lv1, lv0, Hd, D, p1, p0] A9 := by
    have f8 := fA8.same s9
    refine ⟨List.nodup_cons.mpr ⟨fun m => fA8.2 _ m hl, f8.1⟩, fun x hx => ?_⟩
    rcases List.mem_cons.mp hx with e | e
    · rw [e, hcs]; exact fun z => by cases z
    · exact f8.2 x e
  refine ⟨_, rfl, ⟨_, SqL.of hcs⟩, ?_⟩
  refine for_list (K := K) (a := l) (xs := cs.map V.int) (fun j σ G => (∃ z1 z2 z3 z4 z5 z6 z7 z8 z9 z10 z11 : Option V, σ = [some (V.ref a), some (V.ref D), some (V.ref Hd), some (V.ref Lv), some (V.ref Sn), some (V.ref Cm), some (V.ref Gn), z1, z2, z3, z4, z5, z6, z7, z8, z9, z10, z11]) ∧
      ∃ hv0 hv1 lv0 lv1 sn0 sn1, Wd K C G cs l D Hd Lv Sn Cm Gn p0 p1 dx0 dx1 hv0 hv1 lv0 lv1 sn0 sn1 cm0 cm1 gn0 gn1 j) ⟨⟨_, _, _, _, _, _, _, _, _, _, _, rfl⟩, .non, .non, lv0, lv1, sn0, sn1, ?_⟩ ?_ ?_ ?_
  · refine ⟨?_, hcs, s39 _ _ vD, ((((tA5.trans tA6).trans tA7).trans tA8).trans s9) _ _ vHd, s59 _ _ vLv, s69 _ _ vSn, s79 _ _ vCm, s9 _ _ vGn, ?_, ?_⟩
    · exact f9.1
    · exact dk_new ⟨qa0, s29 _ _ vp0, sqt_same s29 (sqt_same sA2 (SqT.of hv0))⟩ (s59 _ _ ((sA4b.trans sA5) _ _ vlv0)) (s69 _ _ ((sA5b.trans sA6) _ _ vsn0)) (s79 _ _ ((sA6b.trans sA7) _ _ vcm0)) (s9 _ _ ((sA7b.trans sA8) _ _ vgn0))
    · exact dk_new ⟨qa1, s29 _ _ hp1, sqt_same s29 (SqT.of hv1)⟩ (s59 _ _ (sA5 _ _ vlv1)) (s69 _ _ (sA6 _ _ vsn1)) (s79 _ _ (sA7 _ _ vcm1)) (s9 _ _ (sA8 _ _ vgn1))
  · rintro j σ G _ ⟨_, hv0, hv1, lv0, lv1, sn0, sn1, W⟩
    exact SqL.of W.ol
  · rintro j x σ G hj ⟨⟨z1, z2, z3, z4, z5, z6, z7, z8, z9, z10, z11, rfl⟩, hv0, hv1, lv0, lv1, sn0, sn1, W⟩
    obtain ⟨c', rfl⟩ : ∃ v, x = V.int v := by
      rw [List.getElem?_map] at hj
      cases e : cs[j]? with
      | none => rw [e] at hj; cases hj
      | some u => rw [e] at hj; exact ⟨u, (Option.some.inj hj).symm⟩
    have hc' : c' ∈ cs := by
      rw [List.getElem?_map] at hj
      cases e : cs[j]? with
      | none => rw [e] at hj; cases hj
      | some u => rw [e] at hj; cases hj; exact List.mem_of_getElem? e
    have jl : j < 63 := by
      have := (List.getElem?_eq_some_iff.mp hj).1
      rw [List.length_map] at this
      omega
    refine ⟨_, rfl, _, _, rfl, rfl, ⟨by decide, by decide, by decide⟩, by show 7 ≤ sizeLine; decide, fun T0 hT0 => ?_⟩
    refine ⟨T0, c', [2, 16, 720720, 4, (10 : Int) ^ Int.toNat 40, 60, 3], rfl, upd_same, bc c' hc', by decide +kernel, by decide, fun l1 ds hl1 e hb => ?_⟩
    obtain ⟨at', way, pick, low, many, seat, turn, rfl⟩ := seven e
    obtain ⟨_, e0, a0, b0⟩ := hb 0 at' rfl
    obtain ⟨_, e2, a2, b2⟩ := hb 2 pick rfl
    obtain ⟨_, e3, a3, b3⟩ := hb 3 low rfl
    obtain ⟨_, e4, a4, b4⟩ := hb 4 many rfl
    obtain ⟨_, e5, a5, b5⟩ := hb 5 seat rfl
    obtain ⟨_, e6, a6, b6⟩ := hb 6 turn rfl
    cases e0; cases e2; cases e3; cases e4; cases e5; cases e6
    refine ⟨l1, _, rfl, SqL.of upd_same, rfl, _, _, rfl, _, _, rfl, _, _, rfl, _, _, rfl, _, _, rfl, _, _, rfl, _, _, rfl, rfl, ?_⟩
    obtain ⟨G1, hG1⟩ : ∃ G1, G1 = upd (upd G T0 (.lst ([2, 16, 720720, 4, (10 : Int) ^ Int.toNat 40, 60, 3].map V.int))) l1 (.lst ([at', way, pick, low, many, seat, turn].map V.int)) := ⟨_, rfl⟩
    have sG1 : Same G G1 := by rw [hG1]; exact (same_upd hT0).trans (same_upd hl1)
    have W1 := W.same sG1
    have rG : ∀ {a : Addr} {o : HO}, G1 a = some o → (upd (upd G T0 (.lst ([2, 16, 720720, 4, (10 : Int) ^ Int.toNat 40, 60, 3].map V.int))) l1 (.lst ([at', way, pick, low, many, seat, turn].map V.int))) a = some o := fun e => by rw [← hG1]; exact e
    have two : at' = 0 ∨ at' = 1 := by omega
    rcases two with rfl | rfl
    · skip
      have W1 : Wd K C G1 cs l D Hd Lv Sn Cm Gn p0 p1 dx0 dx1 hv0 hv1 lv0 lv1 sn0 sn1 cm0 cm1 gn0 gn1 j := W1
      have ND := W1.nd
      refine ⟨_, rfl, _, rfl, _, rfl, _, rfl, Hd, _, _, _, rfl, rfl, SqL.of (rG W1.oH), at0 rfl, _, rfl, _, rfl, Lv, _, _, _, rfl, rfl, SqL.of (rG W1.oL), at0 rfl, _, rfl, _, rfl, _, rfl, _, rfl, low, many, seat, turn, rfl, a3, b3, a4, b4, a5, b5, a6, b6, fun fr G2 n hfr s2 hfr2 sn => ?_⟩
      have sG2 : Same G1 G2 := fun b o e => s2 b o (rG e)
      have W2 := W1.same sG2
      obtain ⟨h, qa, b, ys, ls, zs, cs2, M, L, Z, Cd, gs, m, hp, hh, hhv, hq, hM, hlv, hL, hsn, hZ, hcm, hC, hgn, hbz, dat, zn, lenL, lenZ, lenC, lenG⟩ := W2.d0.ex
      have st : ∀ k ∈ L, StN k := fun k hk => hL.st k hk
      refine ⟨way, pick, hv0, lv0, fr, ls, L, m, n, rfl, a2, hlv, hL, hhv, fun ne z => ne (dat.non z), ⟨fr, rfl, SqT.of hfr2⟩, sn, fun t G3 Dd ht s3 hD => ?_⟩
      have W3 := W2.same s3
      have j1 : j + 1 < 64 := by omega
      obtain ⟨h, qa, b, ys, ls, zs, cs2, M, L, Z, Cd, gs, m, hp, hh, hhv, hq, hM, hlv, hL, hsn, hZ, hcm, hC, hgn, hbz, dat, zn, lenL, lenZ, lenC, lenG⟩ := W3.d0.ex
      refine ⟨_, rfl, _, rfl, _, rfl, Cm, _, _, _, rfl, rfl, SqL.of W3.oC, at0 rfl, _, rfl, _, rfl, Gn, _, _, _, rfl, rfl, SqL.of W3.oG, at0 rfl, t, cm0, gn0, Dd, cs2, Cd, gs, rfl, hD, hcm, hC, hgn, fun bb hbb => ?_⟩
      refine ⟨_, rfl, ?_⟩
      refine ite2 (fun cb => ?_) (fun cb => ?_)
      · refine ⟨Nat.zero_le _, ?_⟩
        intro e he
        have s4 := same_upd (o := .lst []) he
        have ve : upd G3 e (.lst []) e = some (.lst []) := upd_same
        obtain ⟨G4, hG4⟩ : ∃ G4, G4 = upd G3 e (.lst []) := ⟨_, rfl⟩
        rw [← hG4] at s4 ve
        rw [← hG4]
        refine ⟨_, rfl, _, rfl, Lv, _, _, _, rfl, rfl, SqL.of (s4 _ _ W3.oL), at0 rfl, _, rfl, lv0, t, ls, L, Dd, rfl, s4 _ _ hlv, hL.imp fun a zs z => sqt_same s4 z, by omega, hD.imp fun a zs z => sqt_same s4 z, fun lv' G5 ls' s5 hlv' hL' nl => ?_⟩
        have s35 := s4.trans s5
        refine ⟨_, rfl, _, rfl, Lv, _, _, _, rfl, rfl, s35 _ _ W3.oL, rfl, ?_⟩
        obtain ⟨G6, hG6⟩ : ∃ G6, G6 = upd G5 Lv (.lst (pr0 (.ref lv') (.ref lv1))) := ⟨_, rfl⟩
        rw [← (show G6 = upd G5 Lv (.lst (List.set [.ref lv0, .ref lv1] (Int.toNat 0) (.ref lv'))) from hG6)]
        have vLv : G6 Lv = some (.lst (pr0 (.ref lv') (.ref lv1))) := by rw [hG6]; exact upd_same
        obtain ⟨SS, hSS⟩ : ∃ SS, SS = [p0, Hd, Lv, Sn, sn0, cm0, gn0] := ⟨_, rfl⟩
        have nt : ∀ s ∈ SS, NT G3 s := by
          intro s hs
          rw [hSS] at hs
          simp only [List.mem_cons, List.not_mem_nil, or_false] at hs
          rcases hs with rfl | rfl | rfl | rfl | rfl | rfl | rfl
          · exact .inr ⟨_, _, _, hp⟩
          · exact .inl ⟨_, W3.oH⟩
          · exact .inl ⟨_, W3.oL⟩
          · exact .inl ⟨_, W3.oS⟩
          · exact .inl ⟨_, hsn⟩
          · exact .inl ⟨_, hcm⟩
          · exact .inl ⟨_, hgn⟩
        have mem : ∀ {x : Addr}, x ∈ [p0, Hd, Lv, Sn, sn0, cm0, gn0] → x ∈ SS := fun h => by rw [hSS]; exact h
        have notin : ∀ {x : Addr}, x ≠ p0 → x ≠ Hd → x ≠ Lv → x ≠ Sn → x ≠ sn0 → x ≠ cm0 → x ≠ gn0 → x ∉ SS := fun h1 h2 h3 h4 h5 h6 h7 => by
          rw [hSS]; simp only [List.mem_cons, List.not_mem_nil, or_false, not_or]; exact ⟨h1, h2, h3, h4, h5, h6, h7⟩
        have c6 : ChgS SS G3 G6 := by rw [hG6]; exact (Same.s s35).put (mem (by simp))
        have all := W3.all
        have nlv : lv' ≠ Lv := by
          intro z
          rcases nl with e1 | e1
          · exact (nd_at ND 12 10) (e1 ▸ z)
          · rw [z, s4 _ _ W3.oL] at e1; cases e1
        have vlv' : G6 lv' = some (.lst ls') := by rw [hG6, upd_ne nlv]; exact hlv'
        have i6 : ∀ a xs, SqT K G3 a xs → SqT K G6 a xs := fun _ _ z => sqt_chgS c6 nt z
        have i56 : ∀ a xs, SqT K G5 a xs → SqT K G6 a xs := fun _ _ z => by rw [hG6]; exact sqt_chg ⟨_, s35 _ _ W3.oL⟩ Chg.self z
        have hL6 : Sts K G6 ls' (liveB L Dd) := hL'.imp i56
        have k6 : ∀ {x : Addr} {o : HO}, x ≠ Lv → G3 x = some o → G6 x = some o := fun n e => by rw [hG6, upd_ne n]; exact s35 _ _ e
        have ve6 : G6 e = some (.lst []) := by
          have n : e ≠ Lv := (ne_of_none W3.oL he).symm
          rw [hG6, upd_ne n]
          exact s5 _ _ ve
        have hD6 : DeedAt K G6 t Dd := hD.imp i6
        have hp6 := k6 (nd_at ND 16 10) hp
        cases Dd with
        | ask x9 n' =>
          refine ⟨_, rfl, t, _, _, _, rfl, rfl, hD6.1, at0 rfl, rfl, _, rfl, ?_⟩
          rw [dec_str]
          refine iteT' (by decide +kernel) ?_
          have ncL : cm0 ≠ Lv := (nd_at ND 6 10)
          have hcm6 := k6 ncL hcm
          refine ⟨_, rfl, _, rfl, Cm, _, _, _, rfl, rfl, SqL.of (k6 (nd_at ND 4 10) W3.oC), at0 rfl, .inl ⟨rfl, _, SqL.of hcm6⟩, _, rfl, t, _, _, _, rfl, rfl, hD6.1, at1 rfl, cm0, _, _, rfl, rfl, hcm6, Nat.lt_of_lt_of_le (show cs2.length < 100 by rw [hC.len]; omega) (by decide), ?_⟩
          obtain ⟨csA, ecs⟩ : ∃ csA, csA = cs2 ++ [V.ref x9] := ⟨_, rfl⟩
          obtain ⟨GA, hGA⟩ : ∃ GA, GA = upd G6 cm0 (.lst csA) := ⟨_, rfl⟩
          rw [← (show GA = upd G6 cm0 (.lst (cs2 ++ [V.ref x9])) from by rw [hGA, ecs])]
          have cA : ChgS SS G3 GA := by rw [hGA]; exact c6.put (mem (by simp))
          have kA : ∀ {x : Addr} {o : HO}, x ≠ cm0 → G6 x = some o → GA x = some o := fun n e => by rw [hGA, upd_ne n]; exact e
          have i6A : ∀ a xs, SqT K G6 a xs → SqT K GA a xs := fun _ _ z => by rw [hGA]; exact sqt_chg ⟨_, hcm6⟩ Chg.self z
          have nlc : lv' ≠ cm0 := by
            rcases nl with e1 | e1
            · rw [e1]; exact (nd_at ND 12 6)
            · exact (ne_of_none (s4 _ _ hcm) e1).symm
          have nec : e ≠ cm0 := (ne_of_none hcm he).symm
          have vLvA := kA (nd_at ND 10 6) vLv; have vlvA := kA nlc vlv'; have hLA := hL6.imp i6A; have hDA := hD6.imp i6A; have oHA := kA (nd_at ND 13 6) (k6 (nd_at ND 13 10) W3.oH); have oSA := kA (nd_at ND 7 6) (k6 (nd_at ND 7 10) W3.oS); have veA := kA nec ve6
          have hpA := kA (nd_at ND 16 6) hp6; have hsnA := kA (nd_at ND 9 6) (k6 (nd_at ND 9 10) hsn); have hgnA := kA (nd_at ND 3 6) (k6 (nd_at ND 3 10) hgn)
          have hcmA : GA cm0 = some (.lst csA) := by rw [hGA]; exact upd_same
          obtain ⟨gsA, egs⟩ : ∃ gsA, gsA = gs := ⟨_, rfl⟩
          obtain ⟨CA, eCA⟩ : ∃ CA, CA = Cd ++ [n'] := ⟨_, rfl⟩
          obtain ⟨zA, hxA, sx⟩ := id hDA
          have hCA : Sts K GA csA CA := by rw [ecs, eCA]; exact (hC.imp (fun _ _ z => sqt_chgS cA nt z)).app (Sts.one hxA sx)
          rw [← egs] at hgnA
          have lCA : CA.length ≤ j + 1 := by rw [eCA, List.length_append, List.length_singleton]; omega
          have lgA : gsA.length ≤ j + 1 := by rw [egs]; omega
          have hnC : n' ∉ Cd := hbb x9 n' rfl cb
          have lenLB : (L ++ [n']).length ≤ j + 1 := by rw [List.length_append, List.length_singleton]; omega
          refine ⟨_, rfl, t, _, _, _, rfl, rfl, zA, at0 rfl, rfl, _, rfl, ?_⟩
          rw [dec_str]
          refine iteF' (by decide +kernel) ?_
          by_cases mn : m = none
          · skip
            have iA : ∀ a xs, SqT K G3 a xs → SqT K GA a xs := fun _ _ z => sqt_chgS cA nt z
            refine ⟨_, rfl, _, rfl, Hd, _, _, _, rfl, rfl, SqL.of oHA, at0 rfl, _, rfl, _, t, _, _, rfl, hhv.imp iA, hDA, ?_⟩
            refine ⟨_, rfl, ?_⟩
            refine iteT' (by simp [freedB, mn]) ?_
            have eL : L = [] := dat.non mn
            have eM : M = [] := by
              have d2 := dat
              rw [mn] at d2
              exact d2.mnone
            refine ⟨Nat.zero_le _, ?_⟩
            intro e2 he2
            have s7 := same_upd (o := .lst []) he2
            have c7 := cA.new (o := .lst []) he2
            refine ⟨_, rfl, _, rfl, Sn, _, _, _, rfl, rfl, s7 _ _ oSA, rfl, ?_⟩
            obtain ⟨G8, hG8⟩ : ∃ G8, G8 = upd (upd GA e2 (.lst [])) Sn (.lst (pr0 (.ref e2) (.ref sn1))) := ⟨_, rfl⟩
            rw [← (show G8 = upd (upd GA e2 (.lst [])) Sn (.lst (List.set [.ref sn0, .ref sn1] (Int.toNat 0) (.ref e2))) from hG8)]
            have c8 : ChgS SS G3 G8 := by rw [hG8]; exact c7.put (mem (by simp))
            have vSn8 : G8 Sn = some (.lst (pr0 (.ref e2) (.ref sn1))) := by rw [hG8]; exact upd_same
            have k8 : ∀ {x : Addr} {o : HO}, x ≠ Sn → GA x = some o → G8 x = some o := fun n e => by rw [hG8, upd_ne n]; exact s7 _ _ e
            have ne2 : e2 ≠ Sn := (ne_of_none oSA he2).symm
            have ve2 : G8 e2 = some (.lst []) := by rw [hG8, upd_ne ne2]; exact upd_same
            have oH8 := k8 (nd_at ND 13 7) oHA
            have vLv8 := k8 (nd_at ND 10 7) vLvA
            have nlS : lv' ≠ Sn := by
              rcases nl with e1 | e1
              · rw [e1]; exact (nd_at ND 12 7)
              · exact (ne_of_none (s4 _ _ W3.oS) e1).symm
            have vlv8 := k8 nlS vlvA
            have iA8 : ∀ a xs, SqT K GA a xs → SqT K G8 a xs := fun _ _ z => by rw [hG8]; exact sqt_chg ⟨_, s7 _ _ oSA⟩ Chg.self (sqt_same s7 z)
            have hL8 : Sts K G8 ls' (L ++ [n']) := hLA.imp iA8
            have i8 : ∀ a xs, SqT K G3 a xs → SqT K G8 a xs := fun _ _ z => sqt_chgS c8 nt z
            have nlH : lv' ≠ Hd := by
              rcases nl with e1 | e1
              · rw [e1]; exact (nd_at ND 12 13)
              · exact (ne_of_none (s4 _ _ W3.oH) e1).symm
            refine ⟨_, rfl, _, rfl, Lv, _, _, _, rfl, rfl, SqL.of vLv8, at0 rfl, lv', ls', (L ++ [n']), rfl, rfl, SqL.of vlv8, hL8, fun el => ?_, fun x nx hx hnx tx least => ?_⟩
            · simp at el
            · skip
              refine ⟨_, rfl, _, rfl, Hd, _, _, _, rfl, rfl, oH8, rfl, ?_⟩
              obtain ⟨G9, hG9⟩ : ∃ G9, G9 = upd G8 Hd (.lst (pr0 x hv1)) := ⟨_, rfl⟩
              rw [← (show G9 = upd G8 Hd (.lst (List.set [hv0, hv1] (Int.toNat 0) x)) from hG9)]
              have c9 : ChgS SS G3 G9 := by rw [hG9]; exact c8.put (mem (by simp))
              have k9 : ∀ {x : Addr} {o : HO}, x ≠ Hd → G8 x = some o → G9 x = some o := fun n e => by rw [hG9, upd_ne n]; exact e
              have vHd9 : G9 Hd = some (.lst (pr0 x hv1)) := by rw [hG9]; exact upd_same
              have i89 : ∀ a xs, SqT K G8 a xs → SqT K G9 a xs := fun _ _ z => by rw [hG9]; exact sqt_chg ⟨_, oH8⟩ Chg.self z
              have ne2H : e2 ≠ Hd := fun z => by rw [z, s7 _ _ oHA |> fun _ => oHA] at he2; cases he2
              have vlv9 := k9 nlH vlv8
              have hL9 : Sts K G9 ls' (L ++ [n']) := hL8.imp i89
              refine ⟨_, rfl, _, rfl, Lv, _, _, _, rfl, rfl, SqL.of (k9 (nd_at ND 10 13) vLv8), at0 rfl, Nat.zero_le _, ?_⟩
              intro e3 he3
              have s10 := same_upd (o := .lst []) he3
              refine ⟨.list ((L ++ [n']).map stD), .list [], .lst (SqL.of (s10 _ _ vlv9)) (hL9.imp fun a zs z => sqt_same s10 z).dps, .lst (SqL.of upd_same) .nil, shaped_lsts _, by decide, _, rfl, ?_⟩
              rw [eqv_nil]
              have enx : nx = n' := by rw [eL] at hnx; exact List.mem_singleton.mp hnx
              subst enx
              obtain ⟨tx', ex', zx'⟩ := id tx
              subst ex'
              refine iteT' (by rw [decide_eq_false (fun z => by rw [z] at hnx; exact List.not_mem_nil hnx)]; rfl) ?_
              refine ⟨_, rfl, _, rfl, Hd, _, _, _, rfl, rfl, SqL.of (s10 _ _ vHd9), at0 rfl, by show 2 ≤ sizeLine; decide, ?_⟩
              intro t2 ht2
              refine ⟨by show 1 ≤ sizeLine; decide, ?_⟩
              intro E2 hE2
              have s11 := s10.trans (same_upd (o := .tup [.str "vote", .ref tx']) ht2)
              have s12 := s11.trans (same_upd (o := .lst [.ref t2]) hE2)
              obtain ⟨GB, hGB⟩ : ∃ GB, GB = upd (upd (upd G9 e3 (.lst [])) t2 (.tup [.str "vote", .ref tx'])) E2 (.lst [.ref t2]) := ⟨_, rfl⟩
              have sB : Same G9 GB := by rw [hGB]; exact s12
              have vt2 : GB t2 = some (.tup [.str "vote", .ref tx']) := by rw [hGB]; exact same_upd hE2 _ _ upd_same
              have vE2 : GB E2 = some (.lst [.ref t2]) := by rw [hGB]; exact upd_same
              have cB : ChgS SS G3 GB := c9.trans (Same.s sB)
              have hpB : GB p0 = some (.ins C dx0 (deskF h (.ref qa) b)) := sB _ _ (k9 (nd_at ND 16 13) (k8 (nd_at ND 16 7) hpA))
              rw [← hGB]
              have snx : StN nx := hL8.st nx hnx
              have hxB : TupI K GB (.ref tx') nx := ⟨tx', rfl, sqt_same sB (i89 _ _ zx')⟩
              have iB : ∀ a xs, SqT K G3 a xs → SqT K GB a xs := fun _ _ z => sqt_chgS cB nt z
              have hDB : DeedAt K GB t _ := hD.imp iB
              have oDB := cB _ _ (notin (nd_at ND 14 16) (nd_at ND 14 13) (nd_at ND 14 10) (nd_at ND 14 7) (nd_at ND 14 9) (nd_at ND 14 6) (nd_at ND 14 3)) W3.oD
              have hqB := iB _ _ hq
              have hMB : Sts K GB ys M := hM.imp iB
              have hhB : HeldV K GB h m := hh.imp iB
              have holdB : HoldM K GB h M m := by
                rcases hhB with ⟨e1, e2⟩ | z
                · refine .inl ⟨e1, ?_, e2⟩
                  have d2 := dat
                  rw [e2] at d2
                  exact d2.mnone
                · exact .inr z
              have lenM : M.length < 63 := by
                have := dat.pm.length_eq
                have l2 := List.length_filter_le (fun k => !decide (m = some k)) L
                omega
              refine ⟨_, rfl, _, rfl, D, _, _, _, rfl, rfl, SqL.of oDB, at0 rfl, _, rfl, p0, t, dx0, h, .ref qa, b, _, rfl, hpB, hDB, ?_⟩
              have ey : ys = [] := List.eq_nil_of_length_eq_zero (by rw [hM.len, eM]; rfl)
              have eh : h = .non := by
                rcases hh with ⟨e1, _⟩ | ⟨_, _, _, _, _, e1⟩
                · exact e1
                · rw [mn] at e1; cases e1
              refine ⟨p0, dx0, qa, x9, h, b, ys, M, nx, rfl, hpB, hqB, hMB, hDB.2.1, sx, lenM, .inr ⟨eh, ey, fun l6 t6 q6 H6 hl6 hl6v ht6 hq6 hp6' ch => ?_⟩⟩
              have c6' : ChgS SS G3 H6 := cB.trans (Chg.s ch (mem (by simp)))
              have iH : ∀ a xs, SqT K GB a xs → SqT K H6 a xs := fun _ _ z => sqt_chgI hpB ch z
              have i3H : ∀ a xs, SqT K G3 a xs → SqT K H6 a xs := fun _ _ z => sqt_chgS c6' nt z
              have nEp : E2 ≠ p0 := ne_of vE2 hpB (by intro z; cases z)
              have vEH := ch _ _ nEp vE2
              have hxH : TupI K H6 (.ref tx') nx := by obtain ⟨_, e1, z⟩ := hxB; exact ⟨_, e1, iH _ _ z⟩
              have hx6 : TupI K H6 (.ref x9) nx := by obtain ⟨_, e1, z⟩ := hDB.2.1; exact ⟨_, e1, iH _ _ z⟩
              refine ⟨_, rfl, _, _, rfl, .inr ⟨l6, E2, [.ref t6], [.ref t2], _, 2, rfl, rfl, hl6v, vEH, dp_due (SqT.of ht6) hx6, dp_due (iH _ _ (SqT.of vt2)) hxH, rfl, by show 1 < 10000; decide, lv_due _ (by rw [sx.1]; decide)⟩, ?_⟩
              refine ⟨_, rfl, iteF' rfl ?_⟩
              have e2SS : e2 ∉ SS := notin (ne_of_none hpA he2).symm (ne_of_none oHA he2).symm (ne_of_none vLvA he2).symm (ne_of_none oSA he2).symm (ne_of_none hsnA he2).symm (ne_of_none hcmA he2).symm (ne_of_none hgnA he2).symm
              have e23 : G3 e2 = none := cA.back he2 e2SS
              have e2lv : e2 ≠ lv' := (ne_of_none vlvA he2).symm
              have nd1 : [l, Gn, gn1, gn0, Cm, cm1, cm0, Sn, sn1, sn0, Lv, lv1, lv', Hd, D, p1, p0].Nodup := by
                rcases nl with e1 | e1
                · rw [e1]; exact ND
                · exact nd_set 12 ND fun mm => all _ mm (by
                    cases z : G3 lv' with
                    | none => rfl
                    | some o => rw [s4 _ _ z] at e1; cases e1)
              have nd2 : [l, Gn, gn1, gn0, Cm, cm1, cm0, Sn, sn1, e2, Lv, lv1, lv', Hd, D, p1, p0].Nodup := nd_set 9 nd1 fun mm => by
                have mm' : e2 ∈ [l, Gn, gn1, gn0, Cm, cm1, cm0, Sn, sn1, sn0, Lv, lv1, lv0, Hd, D, p1, p0].set 12 lv' := mm
                rcases List.mem_or_eq_of_mem_set mm' with z | z
                · exact all _ z e23
                · exact e2lv z
              have lst_ne : ∀ {y : Addr} {zs : List V}, GB y = some (.lst zs) → y ≠ p0 := fun h => ne_of h hpB (by intro z; cases z)
              have vlvB := sB _ _ vlv9
              have vlvH := ch _ _ (lst_ne vlvB) vlvB
              have ve2B := sB _ _ (k9 ne2H ve2)
              have ve2H := ch _ _ (lst_ne ve2B) ve2B
              have vcmB := sB _ _ (k9 (nd_at ND 6 13) (k8 (nd_at ND 6 7) hcmA))
              have vcmH := ch _ _ (lst_ne vcmB) vcmB
              have vgnB := sB _ _ (k9 (nd_at ND 3 13) (k8 (nd_at ND 3 7) hgnA))
              have vgnH := ch _ _ (lst_ne vgnB) vgnB
              have oHH := ch _ _ (lst_ne (sB _ _ vHd9)) (sB _ _ vHd9)
              have oLH := ch _ _ (nd_at ND 10 16) (sB _ _ (k9 (nd_at ND 10 13) vLv8))
              have oSH := ch _ _ (nd_at ND 7 16) (sB _ _ (k9 (nd_at ND 7 13) vSn8))
              have hLH : Sts K H6 ls' (L ++ [nx]) := hL9.imp fun a zs z => iH _ _ (sqt_same sB z)
              have hCH : Sts K H6 csA CA := hCA.imp fun a zs z => iH _ _ (sqt_same sB (i89 _ _ (iA8 _ _ z)))
              have datN : Dat (L ++ [nx]) [] (some nx) CA := by
                rw [eL, eCA]
                exact Dat.first (by simp) (List.Perm.refl _) (List.pairwise_singleton _ _) fun k hk => by rw [List.mem_singleton.mp hk]; simp
              have dN : Dk K C H6 p0 dx0 (.ref tx') lv' e2 cm0 gn0 (j + 1) := ⟨.ref x9, q6, false, [], ls', [], csA, [], L ++ [nx], [], CA, gsA, some nx, hp6', .inr ⟨x9, nx, rfl, hx6, sx, rfl⟩, .inr ⟨tx', nx, rfl, hxH, sx, rfl⟩, hq6, .nil, vlvH, hLH, ve2H, .nil, vcmH, hCH, vgnH,
                (by simp), datN, (fun z => by cases z), lenLB, Nat.zero_le _, lCA, lgA⟩
              have hB := (W3.d1.next.chg c6' nt (notin (nd_at ND 15 16) (nd_at ND 15 13) (nd_at ND 15 10) (nd_at ND 15 7) (nd_at ND 15 9) (nd_at ND 15 6) (nd_at ND 15 3)) (notin (nd_at ND 11 16) (nd_at ND 11 13) (nd_at ND 11 10) (nd_at ND 11 7) (nd_at ND 11 9) (nd_at ND 11 6) (nd_at ND 11 3))
                (notin (nd_at ND 8 16) (nd_at ND 8 13) (nd_at ND 8 10) (nd_at ND 8 7) (nd_at ND 8 9) (nd_at ND 8 6) (nd_at ND 8 3)) (notin (nd_at ND 5 16) (nd_at ND 5 13) (nd_at ND 5 10) (nd_at ND 5 7) (nd_at ND 5 9) (nd_at ND 5 6) (nd_at ND 5 3))
                (notin (nd_at ND 2 16) (nd_at ND 2 13) (nd_at ND 2 10) (nd_at ND 2 7) (nd_at ND 2 9) (nd_at ND 2 6) (nd_at ND 2 3)))
              have WN : Wd K C H6 cs l D Hd Lv Sn Cm Gn p0 p1 dx0 dx1 _ hv1 lv' lv1 e2 sn1 cm0 cm1 gn0 gn1 (j + 1) := {
                nd := nd2
                ol := c6' _ _ (notin (nd_at ND 0 16) (nd_at ND 0 13) (nd_at ND 0 10) (nd_at ND 0 7) (nd_at ND 0 9) (nd_at ND 0 6) (nd_at ND 0 3)) W3.ol
                oD := c6' _ _ (notin (nd_at ND 14 16) (nd_at ND 14 13) (nd_at ND 14 10) (nd_at ND 14 7) (nd_at ND 14 9) (nd_at ND 14 6) (nd_at ND 14 3)) W3.oD
                oH := oHH
                oL := oLH
                oS := oSH
                oC := c6' _ _ (notin (nd_at ND 4 16) (nd_at ND 4 13) (nd_at ND 4 10) (nd_at ND 4 7) (nd_at ND 4 9) (nd_at ND 4 6) (nd_at ND 4 3)) W3.oC
                oG := c6' _ _ (notin (nd_at ND 1 16) (nd_at ND 1 13) (nd_at ND 1 10) (nd_at ND 1 7) (nd_at ND 1 9) (nd_at ND 1 6) (nd_at ND 1 3)) W3.oG
                d0 := dN
                d1 := hB }
              exact last_look WN j1 (fun σ' G' hσ s' => ⟨hσ, _, _, _, _, _, _, WN.same s'⟩)
          · obtain ⟨hd, k, ehd, hhd, sk, em⟩ : ∃ hd k, h = V.ref hd ∧ TupI K G3 (.ref hd) k ∧ StN k ∧ m = some k := by
              rcases hh with ⟨_, e1⟩ | z
              · exact absurd e1 mn
              · exact z
            obtain ⟨hh', k', ehv, hhw, _, em'⟩ : ∃ hd k, hv0 = V.ref hd ∧ TupI K G3 (.ref hd) k ∧ StN k ∧ m = some k := by
              rcases hhv with ⟨_, e1⟩ | z
              · exact absurd e1 mn
              · exact z
            have ek : k' = k := by rw [em] at em'; exact (Option.some.inj em').symm
            subst ek
            have datm : ∀ M6, M6.Perm (M ++ [n']) → Up M6 → Dat (L ++ [n']) M6 m CA := fun M6 pM6 up6 => by
              have d2 := dat
              rw [em] at d2 ⊢
              rw [eCA]
              exact d2.more hnC pM6 up6
            have iA : ∀ a xs, SqT K G3 a xs → SqT K GA a xs := fun _ _ z => sqt_chgS cA nt z
            refine ⟨_, rfl, _, rfl, Hd, _, _, _, rfl, rfl, SqL.of oHA, at0 rfl, _, rfl, _, t, _, _, rfl, hhv.imp iA, hDA, ?_⟩
            refine ⟨_, rfl, ?_⟩
            refine iteF' (by simp [freedB, mn]) ?_
            refine ⟨_, rfl, t, _, _, _, rfl, rfl, zA, at0 rfl, rfl, _, rfl, ?_⟩
            rw [dec_str]
            refine iteT' (by decide +kernel) ?_
            obtain ⟨tx, etx, zxA⟩ := id hxA
            cases etx
            obtain ⟨th, eth, zh⟩ := id hhw
            cases eth
            refine ⟨_, rfl, t, _, _, _, rfl, rfl, zA, at1 rfl, _, rfl, _, rfl, Hd, _, _, _, rfl, rfl, SqL.of oHA, at0 rfl, x9, hh', n', k', rfl, ehv, zxA, iA _ _ zh, _, rfl, ?_⟩
            cases hlt : HT.lexLt n' k' with
            | false =>
              refine iteF ?_
              obtain ⟨GB, hGB⟩ : ∃ GB, GB = GA := ⟨_, rfl⟩
              have cB := cA; have hpB := hpA; have veB := veA
              rw [← hGB] at cB hpB veB
              rw [← hGB]
              have iB : ∀ a xs, SqT K G3 a xs → SqT K GB a xs := fun _ _ z => sqt_chgS cB nt z
              have hDB : DeedAt K GB t _ := hD.imp iB
              have oDB := cB _ _ (notin (nd_at ND 14 16) (nd_at ND 14 13) (nd_at ND 14 10) (nd_at ND 14 7) (nd_at ND 14 9) (nd_at ND 14 6) (nd_at ND 14 3)) W3.oD
              have hqB := iB _ _ hq
              have hMB : Sts K GB ys M := hM.imp iB
              have hhB : HeldV K GB h m := hh.imp iB
              have holdB : HoldM K GB h M m := by
                rcases hhB with ⟨e1, e2⟩ | z
                · refine .inl ⟨e1, ?_, e2⟩
                  have d2 := dat
                  rw [e2] at d2
                  exact d2.mnone
                · exact .inr z
              have lenM : M.length < 63 := by
                have := dat.pm.length_eq
                have l2 := List.length_filter_le (fun k => !decide (m = some k)) L
                omega
              refine ⟨_, rfl, _, rfl, D, _, _, _, rfl, rfl, SqL.of oDB, at0 rfl, _, rfl, p0, t, dx0, h, .ref qa, b, _, rfl, hpB, hDB, ?_⟩
              have hhdB : TupI K GB (.ref hd) k' := by obtain ⟨y, e1, z⟩ := hhd; exact ⟨y, e1, iB _ _ z⟩
              refine ⟨p0, dx0, qa, x9, _, b, ys, M, n', rfl, hpB, hqB, hMB, hDB.2.1, sx, lenM, .inl ⟨hd, k', ehd, hhdB, sk, fun l6 q6 H6 ys6 M6 hl6 hq6 hM6 pM6 up6 ch res => ?_⟩⟩
              rw [if_neg (by simp [hlt])] at res
              obtain ⟨hl6v, hp6'⟩ := res
              have datN := datm M6 pM6 up6
              rw [← ehd] at hp6'
              have c6' : ChgS SS G3 H6 := cB.trans (Chg.s ch (mem (by simp)))
              have iH : ∀ a xs, SqT K GB a xs → SqT K H6 a xs := fun _ _ z => sqt_chgI hpB ch z
              have i3H : ∀ a xs, SqT K G3 a xs → SqT K H6 a xs := fun _ _ z => sqt_chgS c6' nt z
              have nEp : e ≠ p0 := ne_of veB hpB (by intro z; cases z)
              have vEH := ch _ _ nEp veB
              refine ⟨_, rfl, _, _, rfl, .inr ⟨l6, e, [], [], [], 2, rfl, rfl, hl6v, vEH, .nil, .nil, rfl, by decide, fun _ z => absurd z List.not_mem_nil⟩, ?_⟩
              refine ⟨_, rfl, iteF' rfl ?_⟩
              have nd1 : [l, Gn, gn1, gn0, Cm, cm1, cm0, Sn, sn1, sn0, Lv, lv1, lv', Hd, D, p1, p0].Nodup := by
                rcases nl with e1 | e1
                · rw [e1]; exact ND
                · exact nd_set 12 ND fun mm => all _ mm (by
                    cases z : G3 lv' with
                    | none => rfl
                    | some o => rw [s4 _ _ z] at e1; cases e1)
              have nd2 := nd1
              have lst_ne : ∀ {y : Addr} {zs : List V}, GB y = some (.lst zs) → y ≠ p0 := fun h => ne_of h hpB (by intro z; cases z)
              rw [← hGB] at vlvA hsnA hcmA hgnA oHA oSA vLvA
              have vlvH := ch _ _ (lst_ne vlvA) vlvA
              have vsnH := ch _ _ (lst_ne hsnA) hsnA
              have vcmH := ch _ _ (lst_ne hcmA) hcmA
              have vgnH := ch _ _ (lst_ne hgnA) hgnA
              have oHH := ch _ _ (nd_at ND 13 16) oHA
              have oLH := ch _ _ (nd_at ND 10 16) vLvA
              have oSH := ch _ _ (nd_at ND 7 16) oSA
              rw [← hGB] at hLA hCA
              have hLH : Sts K H6 ls' (L ++ [n']) := hLA.imp iH
              have hCH : Sts K H6 csA CA := hCA.imp iH
              have dN : Dk K C H6 p0 dx0 hv0 lv' sn0 cm0 gn0 (j + 1) := ⟨h, q6, b, ys6, ls', zs, csA, M6, (L ++ [n']), Z, CA, gsA, m, hp6', hh.imp i3H, hhv.imp i3H, hq6, hM6, vlvH, hLH, vsnH, hZ.imp i3H, vcmH, hCH, vgnH,
                hbz, datN, zn, lenLB, by omega, lCA, lgA⟩
              have hB := (W3.d1.next.chg c6' nt (notin (nd_at ND 15 16) (nd_at ND 15 13) (nd_at ND 15 10) (nd_at ND 15 7) (nd_at ND 15 9) (nd_at ND 15 6) (nd_at ND 15 3)) (notin (nd_at ND 11 16) (nd_at ND 11 13) (nd_at ND 11 10) (nd_at ND 11 7) (nd_at ND 11 9) (nd_at ND 11 6) (nd_at ND 11 3))
                (notin (nd_at ND 8 16) (nd_at ND 8 13) (nd_at ND 8 10) (nd_at ND 8 7) (nd_at ND 8 9) (nd_at ND 8 6) (nd_at ND 8 3)) (notin (nd_at ND 5 16) (nd_at ND 5 13) (nd_at ND 5 10) (nd_at ND 5 7) (nd_at ND 5 9) (nd_at ND 5 6) (nd_at ND 5 3))
                (notin (nd_at ND 2 16) (nd_at ND 2 13) (nd_at ND 2 10) (nd_at ND 2 7) (nd_at ND 2 9) (nd_at ND 2 6) (nd_at ND 2 3)))
              have WN : Wd K C H6 cs l D Hd Lv Sn Cm Gn p0 p1 dx0 dx1 hv0 hv1 lv' lv1 sn0 sn1 cm0 cm1 gn0 gn1 (j + 1) := {
                nd := nd2
                ol := c6' _ _ (notin (nd_at ND 0 16) (nd_at ND 0 13) (nd_at ND 0 10) (nd_at ND 0 7) (nd_at ND 0 9) (nd_at ND 0 6) (nd_at ND 0 3)) W3.ol
                oD := c6' _ _ (notin (nd_at ND 14 16) (nd_at ND 14 13) (nd_at ND 14 10) (nd_at ND 14 7) (nd_at ND 14 9) (nd_at ND 14 6) (nd_at ND 14 3)) W3.oD
                oH := oHH
                oL := oLH
                oS := oSH
                oC := c6' _ _ (notin (nd_at ND 4 16) (nd_at ND 4 13) (nd_at ND 4 10) (nd_at ND 4 7) (nd_at ND 4 9) (nd_at ND 4 6) (nd_at ND 4 3)) W3.oC
                oG := c6' _ _ (notin (nd_at ND 1 16) (nd_at ND 1 13) (nd_at ND 1 10) (nd_at ND 1 7) (nd_at ND 1 9) (nd_at ND 1 6) (nd_at ND 1 3)) W3.oG
                d0 := dN
                d1 := hB }
              exact last_look WN j1 (fun σ' G' hσ s' => ⟨hσ, _, _, _, _, _, _, WN.same s'⟩)
            | true =>
              refine iteT ?_
              refine ⟨_, rfl, _, rfl, Sn, _, _, _, rfl, rfl, SqL.of oSA, at0 rfl, Nat.zero_le _, ?_⟩
              intro e3 he3
              have s10 := same_upd (o := .lst []) he3
              have cC0 := cA.new (o := .lst []) he3
              refine ⟨.list (Z.map stD), .list [], .lst (SqL.of (s10 _ _ hsnA)) (hZ.imp fun a zs z => sqt_same s10 (iA _ _ z)).dps, .lst (SqL.of upd_same) .nil, shaped_lsts _, by decide, _, rfl, ?_⟩
              rw [eqv_nil]
              by_cases cz : Z = []
              · refine iteT' (by simp [cz]) ?_
                refine ⟨_, rfl, _, rfl, Hd, _, _, _, rfl, rfl, SqL.of (s10 _ _ oHA), at0 rfl, by show 2 ≤ sizeLine; decide, ?_⟩
                intro t2 ht2
                refine ⟨by show 1 ≤ sizeLine; decide, ?_⟩
                intro E2 hE2
                have s11 := s10.trans (same_upd (o := .tup [.str "back", hv0]) ht2)
                have s12 := s11.trans (same_upd (o := .lst [.ref t2]) hE2)
                obtain ⟨GC, hGC⟩ : ∃ GC, GC = upd (upd (upd GA e3 (.lst [])) t2 (.tup [.str "back", hv0])) E2 (.lst [.ref t2]) := ⟨_, rfl⟩
                have sAC : Same GA GC := by rw [hGC]; exact s12
                have vt2 : GC t2 = some (.tup [.str "back", hv0]) := by rw [hGC]; exact same_upd hE2 _ _ upd_same
                have vE2 : GC E2 = some (.lst [.ref t2]) := by rw [hGC]; exact upd_same
                have cC : ChgS SS G3 GC := cA.trans (Same.s sAC)
                have oSC := sAC _ _ oSA
                have hsnC := sAC _ _ hsnA
                rw [← hGC]
                have nE2 : E2 ≠ sn0 := fun z => by
                  have := s11 _ _ hsnA
                  rw [← z, hE2] at this
                  cases this
                have hDC := hD.imp (fun _ _ z => sqt_chgS cC nt z)
                refine ⟨_, rfl, _, rfl, Sn, _, _, _, rfl, rfl, SqL.of oSC, at0 rfl, .inl ⟨rfl, _, SqL.of hsnC⟩, _, rfl, t, _, _, _, rfl, rfl, hDC.1, at1 rfl, sn0, _, _, rfl, rfl, hsnC, Nat.lt_of_lt_of_le (show zs.length < 100 by rw [hZ.len]; omega) (by decide), ?_⟩
                obtain ⟨GB, hGB⟩ : ∃ GB, GB = upd GC sn0 (.lst (zs ++ [V.ref x9])) := ⟨_, rfl⟩
                rw [← hGB]
                have cB : ChgS SS G3 GB := by rw [hGB]; exact cC.put (mem (by simp))
                have kB : ∀ {x : Addr} {o : HO}, x ≠ sn0 → GC x = some o → GB x = some o := fun n e => by rw [hGB, upd_ne n]; exact e
                have hsnB : GB sn0 = some (.lst (zs ++ [V.ref x9])) := by rw [hGB]; exact upd_same
                have iCB : ∀ a xs, SqT K GC a xs → SqT K GB a xs := fun _ _ z => by rw [hGB]; exact sqt_chg ⟨_, hsnC⟩ Chg.self z
                have hpB := kB (nd_at ND 16 9) (sAC _ _ hpA)
                have nls : lv' ≠ sn0 := by
                  rcases nl with e1 | e1
                  · rw [e1]; exact (nd_at ND 12 9)
                  · exact (ne_of_none (s4 _ _ hsn) e1).symm
                have vlvB := kB nls (sAC _ _ vlvA)
                have vcmB := kB (nd_at ND 6 9) (sAC _ _ hcmA)
                have vgnB := kB (nd_at ND 3 9) (sAC _ _ hgnA)
                have oHB := kB (nd_at ND 13 9) (sAC _ _ oHA)
                have oLB := kB (nd_at ND 10 9) (sAC _ _ vLvA)
                have oSB := kB (nd_at ND 7 9) oSC
                have hLB : Sts K GB ls' (L ++ [n']) := hLA.imp fun _ _ z => iCB _ _ (sqt_same sAC z)
                have hCB : Sts K GB csA CA := hCA.imp fun _ _ z => iCB _ _ (sqt_same sAC z)
                have iB : ∀ a xs, SqT K G3 a xs → SqT K GB a xs := fun _ _ z => sqt_chgS cB nt z
                have hDB : DeedAt K GB t _ := hD.imp iB
                have oDB := cB _ _ (notin (nd_at ND 14 16) (nd_at ND 14 13) (nd_at ND 14 10) (nd_at ND 14 7) (nd_at ND 14 9) (nd_at ND 14 6) (nd_at ND 14 3)) W3.oD
                have hqB := iB _ _ hq
                have hMB : Sts K GB ys M := hM.imp iB
                have hhB : HeldV K GB h m := hh.imp iB
                have holdB : HoldM K GB h M m := by
                  rcases hhB with ⟨e1, e2⟩ | z
                  · refine .inl ⟨e1, ?_, e2⟩
                    have d2 := dat
                    rw [e2] at d2
                    exact d2.mnone
                  · exact .inr z
                have lenM : M.length < 63 := by
                  have := dat.pm.length_eq
                  have l2 := List.length_filter_le (fun k => !decide (m = some k)) L
                  omega
                refine ⟨_, rfl, _, rfl, D, _, _, _, rfl, rfl, SqL.of oDB, at0 rfl, _, rfl, p0, t, dx0, h, .ref qa, b, _, rfl, hpB, hDB, ?_⟩
                have hhdB : TupI K GB (.ref hd) k' := by obtain ⟨y, e1, z⟩ := hhd; exact ⟨y, e1, iB _ _ z⟩
                have vE2B := kB nE2 vE2
                refine ⟨p0, dx0, qa, x9, _, b, ys, M, n', rfl, hpB, hqB, hMB, hDB.2.1, sx, lenM, .inl ⟨hd, k', ehd, hhdB, sk, fun l6 q6 H6 ys6 M6 hl6 hq6 hM6 pM6 up6 ch res => ?_⟩⟩
                rw [if_pos (by rw [hlt, hbz, cz]; rfl)] at res
                obtain ⟨t6, hl6v, ht6, hp6'⟩ := res
                have c6' : ChgS SS G3 H6 := cB.trans (Chg.s ch (mem (by simp)))
                have iH : ∀ a xs, SqT K GB a xs → SqT K H6 a xs := fun _ _ z => sqt_chgI hpB ch z
                have i3H : ∀ a xs, SqT K G3 a xs → SqT K H6 a xs := fun _ _ z => sqt_chgS c6' nt z
                have nEp : E2 ≠ p0 := ne_of vE2B hpB (by intro z; cases z)
                have vEH := ch _ _ nEp vE2B
                have hh6 : TupI K H6 (.ref hd) k' := by obtain ⟨_, e1, z⟩ := hhdB; exact ⟨_, e1, iH _ _ z⟩
                have hw6 : TupI K H6 (.ref hh') k' := ⟨hh', rfl, i3H _ _ zh⟩
                rw [ehv] at vt2
                refine ⟨_, rfl, _, _, rfl, .inr ⟨l6, E2, [.ref t6], [.ref t2], _, 2, rfl, rfl, hl6v, vEH, dp_due (SqT.of ht6) hh6, dp_due (iH _ _ (iCB _ _ (SqT.of vt2))) hw6, rfl, by show 1 < 10000; decide, lv_due _ (by rw [sk.1]; decide)⟩, ?_⟩
                refine ⟨_, rfl, iteF' rfl ?_⟩
                have nd1 : [l, Gn, gn1, gn0, Cm, cm1, cm0, Sn, sn1, sn0, Lv, lv1, lv', Hd, D, p1, p0].Nodup := by
                  rcases nl with e1 | e1
                  · rw [e1]; exact ND
                  · exact nd_set 12 ND fun mm => all _ mm (by
                      cases z : G3 lv' with
                      | none => rfl
                      | some o => rw [s4 _ _ z] at e1; cases e1)
                have nd2 := nd1
                have lst_ne : ∀ {y : Addr} {zs : List V}, GB y = some (.lst zs) → y ≠ p0 := fun h => ne_of h hpB (by intro z; cases z)
                have vlvH := ch _ _ (lst_ne vlvB) vlvB
                have vsnH := ch _ _ (lst_ne hsnB) hsnB
                have vcmH := ch _ _ (lst_ne vcmB) vcmB
                have vgnH := ch _ _ (lst_ne vgnB) vgnB
                have oHH := ch _ _ (nd_at ND 13 16) oHB
                have oLH := ch _ _ (nd_at ND 10 16) oLB
                have oSH := ch _ _ (nd_at ND 7 16) oSB
                have hZH : Sts K H6 (zs ++ [V.ref x9]) (Z ++ [n']) := (hZ.imp i3H).app (Sts.one (by obtain ⟨y, e1, z⟩ := hDB.2.1; exact ⟨y, e1, iH _ _ z⟩) sx)
                have hmN : HeldV K H6 (.ref hd) m := .inr ⟨hd, k', rfl, (by obtain ⟨y, e1, z⟩ := hhdB; exact ⟨y, e1, iH _ _ z⟩), sk, em⟩
                have dN : Dk K C H6 p0 dx0 hv0 lv' sn0 cm0 gn0 (j + 1) := ⟨.ref hd, q6, true, ys6, ls', zs ++ [V.ref x9], csA, M6, L ++ [n'], Z ++ [n'], CA, gsA, m, hp6', hmN, hhv.imp i3H, hq6, hM6, vlvH, hLB.imp iH, vsnH, hZH, vcmH, hCB.imp iH, vgnH,
                  (by simp), datm M6 pM6 up6, (fun z => absurd z mn), lenLB, (by rw [List.length_append, List.length_singleton]; omega), lCA, lgA⟩
                have hB := (W3.d1.next.chg c6' nt (notin (nd_at ND 15 16) (nd_at ND 15 13) (nd_at ND 15 10) (nd_at ND 15 7) (nd_at ND 15 9) (nd_at ND 15 6) (nd_at ND 15 3)) (notin (nd_at ND 11 16) (nd_at ND 11 13) (nd_at ND 11 10) (nd_at ND 11 7) (nd_at ND 11 9) (nd_at ND 11 6) (nd_at ND 11 3))
                  (notin (nd_at ND 8 16) (nd_at ND 8 13) (nd_at ND 8 10) (nd_at ND 8 7) (nd_at ND 8 9) (nd_at ND 8 6) (nd_at ND 8 3)) (notin (nd_at ND 5 16) (nd_at ND 5 13) (nd_at ND 5 10) (nd_at ND 5 7) (nd_at ND 5 9) (nd_at ND 5 6) (nd_at ND 5 3))
                  (notin (nd_at ND 2 16) (nd_at ND 2 13) (nd_at ND 2 10) (nd_at ND 2 7) (nd_at ND 2 9) (nd_at ND 2 6) (nd_at ND 2 3)))
                have WN : Wd K C H6 cs l D Hd Lv Sn Cm Gn p0 p1 dx0 dx1 hv0 hv1 lv' lv1 sn0 sn1 cm0 cm1 gn0 gn1 (j + 1) := {
                  nd := nd2
                  ol := c6' _ _ (notin (nd_at ND 0 16) (nd_at ND 0 13) (nd_at ND 0 10) (nd_at ND 0 7) (nd_at ND 0 9) (nd_at ND 0 6) (nd_at ND 0 3)) W3.ol
                  oD := c6' _ _ (notin (nd_at ND 14 16) (nd_at ND 14 13) (nd_at ND 14 10) (nd_at ND 14 7) (nd_at ND 14 9) (nd_at ND 14 6) (nd_at ND 14 3)) W3.oD
                  oH := oHH
                  oL := oLH
                  oS := oSH
                  oC := c6' _ _ (notin (nd_at ND 4 16) (nd_at ND 4 13) (nd_at ND 4 10) (nd_at ND 4 7) (nd_at ND 4 9) (nd_at ND 4 6) (nd_at ND 4 3)) W3.oC
                  oG := c6' _ _ (notin (nd_at ND 1 16) (nd_at ND 1 13) (nd_at ND 1 10) (nd_at ND 1 7) (nd_at ND 1 9) (nd_at ND 1 6) (nd_at ND 1 3)) W3.oG
                  d0 := dN
                  d1 := hB }
                exact last_look WN j1 (fun σ' G' hσ s' => ⟨hσ, _, _, _, _, _, _, WN.same s'⟩)
              · refine iteF' (by simp [cz]) ?_
                obtain ⟨GC, hGC⟩ : ∃ GC, GC = upd GA e3 (.lst []) := ⟨_, rfl⟩
                have sAC : Same GA GC := by rw [hGC]; exact s10
                have cC : ChgS SS G3 GC := cA.trans (Same.s sAC)
                have oSC := sAC _ _ oSA
                have hsnC := sAC _ _ hsnA
                rw [← hGC]
                have neS : e ≠ sn0 := (ne_of_none hsn he).symm
                have hDC := hD.imp (fun _ _ z => sqt_chgS cC nt z)
                refine ⟨_, rfl, _, rfl, Sn, _, _, _, rfl, rfl, SqL.of oSC, at0 rfl, .inl ⟨rfl, _, SqL.of hsnC⟩, _, rfl, t, _, _, _, rfl, rfl, hDC.1, at1 rfl, sn0, _, _, rfl, rfl, hsnC, Nat.lt_of_lt_of_le (show zs.length < 100 by rw [hZ.len]; omega) (by decide), ?_⟩
                obtain ⟨GB, hGB⟩ : ∃ GB, GB = upd GC sn0 (.lst (zs ++ [V.ref x9])) := ⟨_, rfl⟩
                rw [← hGB]
                have cB : ChgS SS G3 GB := by rw [hGB]; exact cC.put (mem (by simp))
                have kB : ∀ {x : Addr} {o : HO}, x ≠ sn0 → GC x = some o → GB x = some o := fun n e => by rw [hGB, upd_ne n]; exact e
                have hsnB : GB sn0 = some (.lst (zs ++ [V.ref x9])) := by rw [hGB]; exact upd_same
                have iCB : ∀ a xs, SqT K GC a xs → SqT K GB a xs := fun _ _ z => by rw [hGB]; exact sqt_chg ⟨_, hsnC⟩ Chg.self z
                have hpB := kB (nd_at ND 16 9) (sAC _ _ hpA)
                have nls : lv' ≠ sn0 := by
                  rcases nl with e1 | e1
                  · rw [e1]; exact (nd_at ND 12 9)
                  · exact (ne_of_none (s4 _ _ hsn) e1).symm
                have vlvB := kB nls (sAC _ _ vlvA)
                have vcmB := kB (nd_at ND 6 9) (sAC _ _ hcmA)
                have vgnB := kB (nd_at ND 3 9) (sAC _ _ hgnA)
                have oHB := kB (nd_at ND 13 9) (sAC _ _ oHA)
                have oLB := kB (nd_at ND 10 9) (sAC _ _ vLvA)
                have oSB := kB (nd_at ND 7 9) oSC
                have hLB : Sts K GB ls' (L ++ [n']) := hLA.imp fun _ _ z => iCB _ _ (sqt_same sAC z)
                have hCB : Sts K GB csA CA := hCA.imp fun _ _ z => iCB _ _ (sqt_same sAC z)
                have iB : ∀ a xs, SqT K G3 a xs → SqT K GB a xs := fun _ _ z => sqt_chgS cB nt z
                have hDB : DeedAt K GB t _ := hD.imp iB
                have oDB := cB _ _ (notin (nd_at ND 14 16) (nd_at ND 14 13) (nd_at ND 14 10) (nd_at ND 14 7) (nd_at ND 14 9) (nd_at ND 14 6) (nd_at ND 14 3)) W3.oD
                have hqB := iB _ _ hq
                have hMB : Sts K GB ys M := hM.imp iB
                have hhB : HeldV K GB h m := hh.imp iB
                have holdB : HoldM K GB h M m := by
                  rcases hhB with ⟨e1, e2⟩ | z
                  · refine .inl ⟨e1, ?_, e2⟩
                    have d2 := dat
                    rw [e2] at d2
                    exact d2.mnone
                  · exact .inr z
                have lenM : M.length < 63 := by
                  have := dat.pm.length_eq
                  have l2 := List.length_filter_le (fun k => !decide (m = some k)) L
                  omega
                refine ⟨_, rfl, _, rfl, D, _, _, _, rfl, rfl, SqL.of oDB, at0 rfl, _, rfl, p0, t, dx0, h, .ref qa, b, _, rfl, hpB, hDB, ?_⟩
                have hhdB : TupI K GB (.ref hd) k' := by obtain ⟨y, e1, z⟩ := hhd; exact ⟨y, e1, iB _ _ z⟩
                have veB := kB neS (sAC _ _ veA)
                have eb : b = true := by rw [hbz]; simp [cz]
                refine ⟨p0, dx0, qa, x9, _, b, ys, M, n', rfl, hpB, hqB, hMB, hDB.2.1, sx, lenM, .inl ⟨hd, k', ehd, hhdB, sk, fun l6 q6 H6 ys6 M6 hl6 hq6 hM6 pM6 up6 ch res => ?_⟩⟩
                rw [if_neg (by simp [eb])] at res
                obtain ⟨hl6v, hp6'⟩ := res
                rw [eb] at hp6'
                have c6' : ChgS SS G3 H6 := cB.trans (Chg.s ch (mem (by simp)))
                have iH : ∀ a xs, SqT K GB a xs → SqT K H6 a xs := fun _ _ z => sqt_chgI hpB ch z
                have i3H : ∀ a xs, SqT K G3 a xs → SqT K H6 a xs := fun _ _ z => sqt_chgS c6' nt z
                have nEp : e ≠ p0 := ne_of veB hpB (by intro z; cases z)
                have vEH := ch _ _ nEp veB
                refine ⟨_, rfl, _, _, rfl, .inr ⟨l6, e, [], [], [], 2, rfl, rfl, hl6v, vEH, .nil, .nil, rfl, by decide, fun _ z => absurd z List.not_mem_nil⟩, ?_⟩
                refine ⟨_, rfl, iteF' rfl ?_⟩
                have nd1 : [l, Gn, gn1, gn0, Cm, cm1, cm0, Sn, sn1, sn0, Lv, lv1, lv', Hd, D, p1, p0].Nodup := by
                  rcases nl with e1 | e1
                  · rw [e1]; exact ND
                  · exact nd_set 12 ND fun mm => all _ mm (by
                      cases z : G3 lv' with
                      | none => rfl
                      | some o => rw [s4 _ _ z] at e1; cases e1)
                have nd2 := nd1
                have lst_ne : ∀ {y : Addr} {zs : List V}, GB y = some (.lst zs) → y ≠ p0 := fun h => ne_of h hpB (by intro z; cases z)
                have vlvH := ch _ _ (lst_ne vlvB) vlvB
                have vsnH := ch _ _ (lst_ne hsnB) hsnB
                have vcmH := ch _ _ (lst_ne vcmB) vcmB
                have vgnH := ch _ _ (lst_ne vgnB) vgnB
                have oHH := ch _ _ (nd_at ND 13 16) oHB
                have oLH := ch _ _ (nd_at ND 10 16) oLB
                have oSH := ch _ _ (nd_at ND 7 16) oSB
                have hZH : Sts K H6 (zs ++ [V.ref x9]) (Z ++ [n']) := (hZ.imp i3H).app (Sts.one (by obtain ⟨y, e1, z⟩ := hDB.2.1; exact ⟨y, e1, iH _ _ z⟩) sx)
                have hmN : HeldV K H6 (.ref hd) m := .inr ⟨hd, k', rfl, (by obtain ⟨y, e1, z⟩ := hhdB; exact ⟨y, e1, iH _ _ z⟩), sk, em⟩
                have dN : Dk K C H6 p0 dx0 hv0 lv' sn0 cm0 gn0 (j + 1) := ⟨.ref hd, q6, true, ys6, ls', zs ++ [V.ref x9], csA, M6, L ++ [n'], Z ++ [n'], CA, gsA, m, hp6', hmN, hhv.imp i3H, hq6, hM6, vlvH, hLB.imp iH, vsnH, hZH, vcmH, hCB.imp iH, vgnH,
                  (by simp), datm M6 pM6 up6, (fun z => absurd z mn), lenLB, (by rw [List.length_append, List.length_singleton]; omega), lCA, lgA⟩
                have hB := (W3.d1.next.chg c6' nt (notin (nd_at ND 15 16) (nd_at ND 15 13) (nd_at ND 15 10) (nd_at ND 15 7) (nd_at ND 15 9) (nd_at ND 15 6) (nd_at ND 15 3)) (notin (nd_at ND 11 16) (nd_at ND 11 13) (nd_at ND 11 10) (nd_at ND 11 7) (nd_at ND 11 9) (nd_at ND 11 6) (nd_at ND 11 3))
                  (notin (nd_at ND 8 16) (nd_at ND 8 13) (nd_at ND 8 10) (nd_at ND 8 7) (nd_at ND 8 9) (nd_at ND 8 6) (nd_at ND 8 3)) (notin (nd_at ND 5 16) (nd_at ND 5 13) (nd_at ND 5 10) (nd_at ND 5 7) (nd_at ND 5 9) (nd_at ND 5 6) (nd_at ND 5 3))
                  (notin (nd_at ND 2 16) (nd_at ND 2 13) (nd_at ND 2 10) (nd_at ND 2 7) (nd_at ND 2 9) (nd_at ND 2 6) (nd_at ND 2 3)))
                have WN : Wd K C H6 cs l D Hd Lv Sn Cm Gn p0 p1 dx0 dx1 hv0 hv1 lv' lv1 sn0 sn1 cm0 cm1 gn0 gn1 (j + 1) := {
                  nd := nd2
                  ol := c6' _ _ (notin (nd_at ND 0 16) (nd_at ND 0 13) (nd_at ND 0 10) (nd_at ND 0 7) (nd_at ND 0 9) (nd_at ND 0 6) (nd_at ND 0 3)) W3.ol
                  oD := c6' _ _ (notin (nd_at ND 14 16) (nd_at ND 14 13) (nd_at ND 14 10) (nd_at ND 14 7) (nd_at ND 14 9) (nd_at ND 14 6) (nd_at ND 14 3)) W3.oD
                  oH := oHH
                  oL := oLH
                  oS := oSH
                  oC := c6' _ _ (notin (nd_at ND 4 16) (nd_at ND 4 13) (nd_at ND 4 10) (nd_at ND 4 7) (nd_at ND 4 9) (nd_at ND 4 6) (nd_at ND 4 3)) W3.oC
                  oG := c6' _ _ (notin (nd_at ND 1 16) (nd_at ND 1 13) (nd_at ND 1 10) (nd_at ND 1 7) (nd_at ND 1 9) (nd_at ND 1 6) (nd_at ND 1 3)) W3.oG
                  d0 := dN
                  d1 := hB }
                exact last_look WN j1 (fun σ' G' hσ s' => ⟨hσ, _, _, _, _, _, _, WN.same s'⟩)
        | giv x n' =>
          refine ⟨_, rfl, t, _, _, _, rfl, rfl, hD6.1, at0 rfl, rfl, _, rfl, ?_⟩
          rw [dec_str]
          refine iteF' (by decide +kernel) ?_
          refine ⟨_, rfl, t, _, _, _, rfl, rfl, hD6.1, at0 rfl, rfl, _, rfl, ?_⟩
          rw [dec_str]
          refine iteF' (by decide +kernel) ?_
          obtain ⟨GA, hGA⟩ : ∃ GA, GA = G6 := ⟨_, rfl⟩
          have cA := c6; have vLvA := vLv; have vlvA := vlv'; have hLA := hL6; have hDA := hD6; have oHA := k6 (nd_at ND 13 10) W3.oH; have oSA := k6 (nd_at ND 7 10) W3.oS; have veA := ve6; have hpA := hp6; have hsnA := k6 (nd_at ND 9 10) hsn; have hcmA := k6 (nd_at ND 6 10) hcm; have hgnA := k6 (nd_at ND 3 10) hgn
          rw [← hGA] at cA vLvA vlvA hLA hDA oHA oSA veA hpA hsnA hcmA hgnA
          rw [← hGA]
          obtain ⟨csA, ecs⟩ : ∃ csA, csA = cs2 := ⟨_, rfl⟩
          obtain ⟨CA, eCA⟩ : ∃ CA, CA = Cd := ⟨_, rfl⟩
          obtain ⟨gsA, egs⟩ : ∃ gsA, gsA = gs := ⟨_, rfl⟩
          have hCA : Sts K GA cs2 Cd := hC.imp (fun _ _ z => sqt_chgS cA nt z)
          have datA := dat
          rw [← ecs] at hcmA
          rw [← egs] at hgnA
          rw [← ecs, ← eCA] at hCA
          rw [← eCA] at datA
          have lCA : CA.length ≤ j + 1 := by rw [eCA]; omega
          have lgA : gsA.length ≤ j + 1 := by rw [egs]; omega
          have iA : ∀ a xs, SqT K G3 a xs → SqT K GA a xs := fun _ _ z => sqt_chgS cA nt z
          refine ⟨_, rfl, _, rfl, Hd, _, _, _, rfl, rfl, SqL.of oHA, at0 rfl, _, rfl, _, t, _, _, rfl, hhv.imp iA, hDA, ?_⟩
          refine ⟨_, rfl, ?_⟩
          have lenLB : L.length ≤ j + 1 := by omega
          cases hf : freedB m (.giv x n') with
          | true =>
            refine iteT ?_
            refine ⟨Nat.zero_le _, ?_⟩
            intro e2 he2
            have s7 := same_upd (o := .lst []) he2
            have c7 := cA.new (o := .lst []) he2
            refine ⟨_, rfl, _, rfl, Sn, _, _, _, rfl, rfl, s7 _ _ oSA, rfl, ?_⟩
            obtain ⟨G8, hG8⟩ : ∃ G8, G8 = upd (upd GA e2 (.lst [])) Sn (.lst (pr0 (.ref e2) (.ref sn1))) := ⟨_, rfl⟩
            rw [← (show G8 = upd (upd GA e2 (.lst [])) Sn (.lst (List.set [.ref sn0, .ref sn1] (Int.toNat 0) (.ref e2))) from hG8)]
            have c8 : ChgS SS G3 G8 := by rw [hG8]; exact c7.put (mem (by simp))
            have vSn8 : G8 Sn = some (.lst (pr0 (.ref e2) (.ref sn1))) := by rw [hG8]; exact upd_same
            have k8 : ∀ {x : Addr} {o : HO}, x ≠ Sn → GA x = some o → G8 x = some o := fun n e => by rw [hG8, upd_ne n]; exact s7 _ _ e
            have ne2 : e2 ≠ Sn := (ne_of_none oSA he2).symm
            have ve2 : G8 e2 = some (.lst []) := by rw [hG8, upd_ne ne2]; exact upd_same
            have oH8 := k8 (nd_at ND 13 7) oHA
            have vLv8 := k8 (nd_at ND 10 7) vLvA
            have nlS : lv' ≠ Sn := by
              rcases nl with e1 | e1
              · rw [e1]; exact (nd_at ND 12 7)
              · exact (ne_of_none (s4 _ _ W3.oS) e1).symm
            have vlv8 := k8 nlS vlvA
            have iA8 : ∀ a xs, SqT K GA a xs → SqT K G8 a xs := fun _ _ z => by rw [hG8]; exact sqt_chg ⟨_, s7 _ _ oSA⟩ Chg.self (sqt_same s7 z)
            have hL8 : Sts K G8 ls' L := hLA.imp iA8
            have i8 : ∀ a xs, SqT K G3 a xs → SqT K G8 a xs := fun _ _ z => sqt_chgS c8 nt z
            have nlH : lv' ≠ Hd := by
              rcases nl with e1 | e1
              · rw [e1]; exact (nd_at ND 12 13)
              · exact (ne_of_none (s4 _ _ W3.oH) e1).symm
            refine ⟨_, rfl, _, rfl, Lv, _, _, _, rfl, rfl, SqL.of vLv8, at0 rfl, lv', ls', L, rfl, rfl, SqL.of vlv8, hL8, fun el => ?_, fun x nx hx hnx tx least => ?_⟩
            · skip
              refine ⟨_, rfl, _, rfl, Hd, _, _, _, rfl, rfl, oH8, rfl, ?_⟩
              obtain ⟨G9, hG9⟩ : ∃ G9, G9 = upd G8 Hd (.lst (pr0 V.non hv1)) := ⟨_, rfl⟩
              rw [← (show G9 = upd G8 Hd (.lst (List.set [hv0, hv1] (Int.toNat 0) V.non)) from hG9)]
              have c9 : ChgS SS G3 G9 := by rw [hG9]; exact c8.put (mem (by simp))
              have k9 : ∀ {x : Addr} {o : HO}, x ≠ Hd → G8 x = some o → G9 x = some o := fun n e => by rw [hG9, upd_ne n]; exact e
              have vHd9 : G9 Hd = some (.lst (pr0 V.non hv1)) := by rw [hG9]; exact upd_same
              have i89 : ∀ a xs, SqT K G8 a xs → SqT K G9 a xs := fun _ _ z => by rw [hG9]; exact sqt_chg ⟨_, oH8⟩ Chg.self z
              have ne2H : e2 ≠ Hd := fun z => by rw [z, s7 _ _ oHA |> fun _ => oHA] at he2; cases he2
              have vlv9 := k9 nlH vlv8
              have hL9 : Sts K G9 ls' L := hL8.imp i89
              refine ⟨_, rfl, _, rfl, Lv, _, _, _, rfl, rfl, SqL.of (k9 (nd_at ND 10 13) vLv8), at0 rfl, Nat.zero_le _, ?_⟩
              intro e3 he3
              have s10 := same_upd (o := .lst []) he3
              refine ⟨.list (L.map stD), .list [], .lst (SqL.of (s10 _ _ vlv9)) (hL9.imp fun a zs z => sqt_same s10 z).dps, .lst (SqL.of upd_same) .nil, shaped_lsts _, by decide, _, rfl, ?_⟩
              rw [eqv_nil]
              have mn : m = none := by
                cases hm : m with
                | none => rfl
                | some k =>
                  have := dat.mem k hm
                  rw [el] at this
                  exact absurd this List.not_mem_nil
              refine iteF' (by simp [el]) ?_
              obtain ⟨GB, hGB⟩ : ∃ GB, GB = upd G9 e3 (.lst []) := ⟨_, rfl⟩
              have sB : Same G9 GB := by rw [hGB]; exact s10
              have cB : ChgS SS G3 GB := by rw [hGB]; exact c9.new he3
              have hpB : GB p0 = some (.ins C dx0 (deskF h (.ref qa) b)) := sB _ _ (k9 (nd_at ND 16 13) (k8 (nd_at ND 16 7) hpA))
              have neS : e ≠ Sn := ne_of_none W3.oS he |> Ne.symm
              have neH : e ≠ Hd := ne_of_none W3.oH he |> Ne.symm
              have veB : GB e = some (.lst []) := sB _ _ (k9 neH (k8 neS veA))
              rw [← hGB]
              have iB : ∀ a xs, SqT K G3 a xs → SqT K GB a xs := fun _ _ z => sqt_chgS cB nt z
              have hDB : DeedAt K GB t _ := hD.imp iB
              have oDB := cB _ _ (notin (nd_at ND 14 16) (nd_at ND 14 13) (nd_at ND 14 10) (nd_at ND 14 7) (nd_at ND 14 9) (nd_at ND 14 6) (nd_at ND 14 3)) W3.oD
              have hqB := iB _ _ hq
              have hMB : Sts K GB ys M := hM.imp iB
              have hhB : HeldV K GB h m := hh.imp iB
              have holdB : HoldM K GB h M m := by
                rcases hhB with ⟨e1, e2⟩ | z
                · refine .inl ⟨e1, ?_, e2⟩
                  have d2 := dat
                  rw [e2] at d2
                  exact d2.mnone
                · exact .inr z
              have lenM : M.length < 63 := by
                have := dat.pm.length_eq
                have l2 := List.length_filter_le (fun k => !decide (m = some k)) L
                omega
              refine ⟨_, rfl, _, rfl, D, _, _, _, rfl, rfl, SqL.of oDB, at0 rfl, _, rfl, p0, t, dx0, h, .ref qa, b, _, rfl, hpB, hDB, ?_⟩
              refine ⟨p0, dx0, qa, x, h, b, ys, M, m, n', rfl, hpB, hqB, hMB, hDB.2, holdB, lenM, ?_⟩
              rw [if_neg (by rw [mn]; simp)]
              intro l6 H6 hl6 ch out
              obtain ⟨hl6v, q6, ys6, hq6, hM6, hp6'⟩ := out
              have c6' : ChgS SS G3 H6 := cB.trans (Chg.s ch (mem (by simp)))
              have iH : ∀ a xs, SqT K GB a xs → SqT K H6 a xs := fun _ _ z => sqt_chgI hpB ch z
              have i3H : ∀ a xs, SqT K G3 a xs → SqT K H6 a xs := fun _ _ z => sqt_chgS c6' nt z
              have nEp : e ≠ p0 := ne_of veB hpB (by intro z; cases z)
              have vEH := ch _ _ nEp veB
              refine ⟨_, rfl, _, _, rfl, .inr ⟨l6, e, [], [], [], 2, rfl, rfl, hl6v, vEH, .nil, .nil, rfl, by decide, fun _ z => absurd z List.not_mem_nil⟩, ?_⟩
              refine ⟨_, rfl, iteF' rfl ?_⟩
              have e2SS : e2 ∉ SS := notin (ne_of_none hpA he2).symm (ne_of_none oHA he2).symm (ne_of_none vLvA he2).symm (ne_of_none oSA he2).symm (ne_of_none hsnA he2).symm (ne_of_none hcmA he2).symm (ne_of_none hgnA he2).symm
              have e23 : G3 e2 = none := cA.back he2 e2SS
              have e2lv : e2 ≠ lv' := (ne_of_none vlvA he2).symm
              have nd1 : [l, Gn, gn1, gn0, Cm, cm1, cm0, Sn, sn1, sn0, Lv, lv1, lv', Hd, D, p1, p0].Nodup := by
                rcases nl with e1 | e1
                · rw [e1]; exact ND
                · exact nd_set 12 ND fun mm => all _ mm (by
                    cases z : G3 lv' with
                    | none => rfl
                    | some o => rw [s4 _ _ z] at e1; cases e1)
              have nd2 : [l, Gn, gn1, gn0, Cm, cm1, cm0, Sn, sn1, e2, Lv, lv1, lv', Hd, D, p1, p0].Nodup := nd_set 9 nd1 fun mm => by
                have mm' : e2 ∈ [l, Gn, gn1, gn0, Cm, cm1, cm0, Sn, sn1, sn0, Lv, lv1, lv0, Hd, D, p1, p0].set 12 lv' := mm
                rcases List.mem_or_eq_of_mem_set mm' with z | z
                · exact all _ z e23
                · exact e2lv z
              have lst_ne : ∀ {y : Addr} {zs : List V}, GB y = some (.lst zs) → y ≠ p0 := fun h => ne_of h hpB (by intro z; cases z)
              have vlvB := sB _ _ vlv9
              have vlvH := ch _ _ (lst_ne vlvB) vlvB
              have ve2B := sB _ _ (k9 ne2H ve2)
              have ve2H := ch _ _ (lst_ne ve2B) ve2B
              have vcmB := sB _ _ (k9 (nd_at ND 6 13) (k8 (nd_at ND 6 7) hcmA))
              have vcmH := ch _ _ (lst_ne vcmB) vcmB
              have vgnB := sB _ _ (k9 (nd_at ND 3 13) (k8 (nd_at ND 3 7) hgnA))
              have vgnH := ch _ _ (lst_ne vgnB) vgnB
              have oHH := ch _ _ (lst_ne (sB _ _ vHd9)) (sB _ _ vHd9)
              have oLH := ch _ _ (nd_at ND 10 16) (sB _ _ (k9 (nd_at ND 10 13) vLv8))
              have oSH := ch _ _ (nd_at ND 7 16) (sB _ _ (k9 (nd_at ND 7 13) vSn8))
              have hLH : Sts K H6 ls' L := hL9.imp fun a zs z => iH _ _ (sqt_same sB z)
              have hCH : Sts K H6 csA CA := hCA.imp fun a zs z => iH _ _ (sqt_same sB (i89 _ _ (iA8 _ _ z)))
              have dN : Dk K C H6 p0 dx0 .non lv' e2 cm0 gn0 (j + 1) := ⟨h, q6, b, ys6, ls', [], csA, M, L, [], CA, gsA, m, hp6', hh.imp i3H, .inl ⟨rfl, mn⟩, hq6, hM6, vlvH, hLH, ve2H, .nil, vcmH, hCH, vgnH,
                (by rw [hbz, zn mn]), datA, fun _ => rfl, lenLB, Nat.zero_le _, lCA, lgA⟩
              have hB := (W3.d1.next.chg c6' nt (notin (nd_at ND 15 16) (nd_at ND 15 13) (nd_at ND 15 10) (nd_at ND 15 7) (nd_at ND 15 9) (nd_at ND 15 6) (nd_at ND 15 3)) (notin (nd_at ND 11 16) (nd_at ND 11 13) (nd_at ND 11 10) (nd_at ND 11 7) (nd_at ND 11 9) (nd_at ND 11 6) (nd_at ND 11 3))
                (notin (nd_at ND 8 16) (nd_at ND 8 13) (nd_at ND 8 10) (nd_at ND 8 7) (nd_at ND 8 9) (nd_at ND 8 6) (nd_at ND 8 3)) (notin (nd_at ND 5 16) (nd_at ND 5 13) (nd_at ND 5 10) (nd_at ND 5 7) (nd_at ND 5 9) (nd_at ND 5 6) (nd_at ND 5 3))
                (notin (nd_at ND 2 16) (nd_at ND 2 13) (nd_at ND 2 10) (nd_at ND 2 7) (nd_at ND 2 9) (nd_at ND 2 6) (nd_at ND 2 3)))
              have WN : Wd K C H6 cs l D Hd Lv Sn Cm Gn p0 p1 dx0 dx1 _ hv1 lv' lv1 e2 sn1 cm0 cm1 gn0 gn1 (j + 1) := {
                nd := nd2
                ol := c6' _ _ (notin (nd_at ND 0 16) (nd_at ND 0 13) (nd_at ND 0 10) (nd_at ND 0 7) (nd_at ND 0 9) (nd_at ND 0 6) (nd_at ND 0 3)) W3.ol
                oD := c6' _ _ (notin (nd_at ND 14 16) (nd_at ND 14 13) (nd_at ND 14 10) (nd_at ND 14 7) (nd_at ND 14 9) (nd_at ND 14 6) (nd_at ND 14 3)) W3.oD
                oH := oHH
                oL := oLH
                oS := oSH
                oC := c6' _ _ (notin (nd_at ND 4 16) (nd_at ND 4 13) (nd_at ND 4 10) (nd_at ND 4 7) (nd_at ND 4 9) (nd_at ND 4 6) (nd_at ND 4 3)) W3.oC
                oG := c6' _ _ (notin (nd_at ND 1 16) (nd_at ND 1 13) (nd_at ND 1 10) (nd_at ND 1 7) (nd_at ND 1 9) (nd_at ND 1 6) (nd_at ND 1 3)) W3.oG
                d0 := dN
                d1 := hB }
              exact last_look WN j1 (fun σ' G' hσ s' => ⟨hσ, _, _, _, _, _, _, WN.same s'⟩)
            · skip
              refine ⟨_, rfl, _, rfl, Hd, _, _, _, rfl, rfl, oH8, rfl, ?_⟩
              obtain ⟨G9, hG9⟩ : ∃ G9, G9 = upd G8 Hd (.lst (pr0 x hv1)) := ⟨_, rfl⟩
              rw [← (show G9 = upd G8 Hd (.lst (List.set [hv0, hv1] (Int.toNat 0) x)) from hG9)]
              have c9 : ChgS SS G3 G9 := by rw [hG9]; exact c8.put (mem (by simp))
              have k9 : ∀ {x : Addr} {o : HO}, x ≠ Hd → G8 x = some o → G9 x = some o := fun n e => by rw [hG9, upd_ne n]; exact e
              have vHd9 : G9 Hd = some (.lst (pr0 x hv1)) := by rw [hG9]; exact upd_same
              have i89 : ∀ a xs, SqT K G8 a xs → SqT K G9 a xs := fun _ _ z => by rw [hG9]; exact sqt_chg ⟨_, oH8⟩ Chg.self z
              have ne2H : e2 ≠ Hd := fun z => by rw [z, s7 _ _ oHA |> fun _ => oHA] at he2; cases he2
              have vlv9 := k9 nlH vlv8
              have hL9 : Sts K G9 ls' L := hL8.imp i89
              refine ⟨_, rfl, _, rfl, Lv, _, _, _, rfl, rfl, SqL.of (k9 (nd_at ND 10 13) vLv8), at0 rfl, Nat.zero_le _, ?_⟩
              intro e3 he3
              have s10 := same_upd (o := .lst []) he3
              refine ⟨.list (L.map stD), .list [], .lst (SqL.of (s10 _ _ vlv9)) (hL9.imp fun a zs z => sqt_same s10 z).dps, .lst (SqL.of upd_same) .nil, shaped_lsts _, by decide, _, rfl, ?_⟩
              rw [eqv_nil]
              have mn : m = some n' := by
                cases hm : m with
                | none =>
                  have := dat.non hm
                  rw [this] at hnx
                  exact absurd hnx List.not_mem_nil
                | some k => rw [hm] at hf; simpa [freedB] using hf
              obtain ⟨tx', ex', zx'⟩ := id tx
              subst ex'
              refine iteT' (by rw [decide_eq_false (fun z => by rw [z] at hnx; exact List.not_mem_nil hnx)]; rfl) ?_
              refine ⟨_, rfl, _, rfl, Hd, _, _, _, rfl, rfl, SqL.of (s10 _ _ vHd9), at0 rfl, by show 2 ≤ sizeLine; decide, ?_⟩
              intro t2 ht2
              refine ⟨by show 1 ≤ sizeLine; decide, ?_⟩
              intro E2 hE2
              have s11 := s10.trans (same_upd (o := .tup [.str "vote", .ref tx']) ht2)
              have s12 := s11.trans (same_upd (o := .lst [.ref t2]) hE2)
              obtain ⟨GB, hGB⟩ : ∃ GB, GB = upd (upd (upd G9 e3 (.lst [])) t2 (.tup [.str "vote", .ref tx'])) E2 (.lst [.ref t2]) := ⟨_, rfl⟩
              have sB : Same G9 GB := by rw [hGB]; exact s12
              have vt2 : GB t2 = some (.tup [.str "vote", .ref tx']) := by rw [hGB]; exact same_upd hE2 _ _ upd_same
              have vE2 : GB E2 = some (.lst [.ref t2]) := by rw [hGB]; exact upd_same
              have cB : ChgS SS G3 GB := c9.trans (Same.s sB)
              have hpB : GB p0 = some (.ins C dx0 (deskF h (.ref qa) b)) := sB _ _ (k9 (nd_at ND 16 13) (k8 (nd_at ND 16 7) hpA))
              rw [← hGB]
              have snx : StN nx := hL8.st nx hnx
              have hxB : TupI K GB (.ref tx') nx := ⟨tx', rfl, sqt_same sB (i89 _ _ zx')⟩
              have iB : ∀ a xs, SqT K G3 a xs → SqT K GB a xs := fun _ _ z => sqt_chgS cB nt z
              have hDB : DeedAt K GB t _ := hD.imp iB
              have oDB := cB _ _ (notin (nd_at ND 14 16) (nd_at ND 14 13) (nd_at ND 14 10) (nd_at ND 14 7) (nd_at ND 14 9) (nd_at ND 14 6) (nd_at ND 14 3)) W3.oD
              have hqB := iB _ _ hq
              have hMB : Sts K GB ys M := hM.imp iB
              have hhB : HeldV K GB h m := hh.imp iB
              have holdB : HoldM K GB h M m := by
                rcases hhB with ⟨e1, e2⟩ | z
                · refine .inl ⟨e1, ?_, e2⟩
                  have d2 := dat
                  rw [e2] at d2
                  exact d2.mnone
                · exact .inr z
              have lenM : M.length < 63 := by
                have := dat.pm.length_eq
                have l2 := List.length_filter_le (fun k => !decide (m = some k)) L
                omega
              refine ⟨_, rfl, _, rfl, D, _, _, _, rfl, rfl, SqL.of oDB, at0 rfl, _, rfl, p0, t, dx0, h, .ref qa, b, _, rfl, hpB, hDB, ?_⟩
              refine ⟨p0, dx0, qa, _, h, b, ys, M, m, n', rfl, hpB, hqB, hMB, hDB.2, holdB, lenM, ?_⟩
              rw [if_pos mn]
              intro l6 H6 M1 hl6 pM1 upM1 ch out
              rw [mn] at datA
              have pL : M1.Perm L := pM1.trans datA.whole
              have ndL := datA.nd
              have subL := datA.sub
              rcases out with ⟨z, _⟩ | ⟨t6, x6, nx6, r6, M6, q6, eM1, hl6v, ht6, hx6, sx6, hq6, hM6, hp6'⟩
              · rw [z] at pL
                rw [List.Perm.eq_nil pL.symm] at hnx
                exact absurd hnx List.not_mem_nil
              rw [eM1] at pL upM1
              have enx := min_first pL upM1 (fun k hk => hL8.st k hk) hnx least
              subst enx
              have c6' : ChgS SS G3 H6 := cB.trans (Chg.s ch (mem (by simp)))
              have iH : ∀ a xs, SqT K GB a xs → SqT K H6 a xs := fun _ _ z => sqt_chgI hpB ch z
              have i3H : ∀ a xs, SqT K G3 a xs → SqT K H6 a xs := fun _ _ z => sqt_chgS c6' nt z
              have nEp : E2 ≠ p0 := ne_of vE2 hpB (by intro z; cases z)
              have vEH := ch _ _ nEp vE2
              have hxH : TupI K H6 (.ref tx') nx6 := by obtain ⟨_, e1, z⟩ := hxB; exact ⟨_, e1, iH _ _ z⟩
              refine ⟨_, rfl, _, _, rfl, .inr ⟨l6, E2, [.ref t6], [.ref t2], _, 2, rfl, rfl, hl6v, vEH, dp_due ht6 hx6, dp_due (iH _ _ (SqT.of vt2)) hxH, rfl, by show 1 < 10000; decide, lv_due _ (by rw [sx6.1]; decide)⟩, ?_⟩
              refine ⟨_, rfl, iteF' rfl ?_⟩
              have e2SS : e2 ∉ SS := notin (ne_of_none hpA he2).symm (ne_of_none oHA he2).symm (ne_of_none vLvA he2).symm (ne_of_none oSA he2).symm (ne_of_none hsnA he2).symm (ne_of_none hcmA he2).symm (ne_of_none hgnA he2).symm
              have e23 : G3 e2 = none := cA.back he2 e2SS
              have e2lv : e2 ≠ lv' := (ne_of_none vlvA he2).symm
              have nd1 : [l, Gn, gn1, gn0, Cm, cm1, cm0, Sn, sn1, sn0, Lv, lv1, lv', Hd, D, p1, p0].Nodup := by
                rcases nl with e1 | e1
                · rw [e1]; exact ND
                · exact nd_set 12 ND fun mm => all _ mm (by
                    cases z : G3 lv' with
                    | none => rfl
                    | some o => rw [s4 _ _ z] at e1; cases e1)
              have nd2 : [l, Gn, gn1, gn0, Cm, cm1, cm0, Sn, sn1, e2, Lv, lv1, lv', Hd, D, p1, p0].Nodup := nd_set 9 nd1 fun mm => by
                have mm' : e2 ∈ [l, Gn, gn1, gn0, Cm, cm1, cm0, Sn, sn1, sn0, Lv, lv1, lv0, Hd, D, p1, p0].set 12 lv' := mm
                rcases List.mem_or_eq_of_mem_set mm' with z | z
                · exact all _ z e23
                · exact e2lv z
              have lst_ne : ∀ {y : Addr} {zs : List V}, GB y = some (.lst zs) → y ≠ p0 := fun h => ne_of h hpB (by intro z; cases z)
              have vlvB := sB _ _ vlv9
              have vlvH := ch _ _ (lst_ne vlvB) vlvB
              have ve2B := sB _ _ (k9 ne2H ve2)
              have ve2H := ch _ _ (lst_ne ve2B) ve2B
              have vcmB := sB _ _ (k9 (nd_at ND 6 13) (k8 (nd_at ND 6 7) hcmA))
              have vcmH := ch _ _ (lst_ne vcmB) vcmB
              have vgnB := sB _ _ (k9 (nd_at ND 3 13) (k8 (nd_at ND 3 7) hgnA))
              have vgnH := ch _ _ (lst_ne vgnB) vgnB
              have oHH := ch _ _ (lst_ne (sB _ _ vHd9)) (sB _ _ vHd9)
              have oLH := ch _ _ (nd_at ND 10 16) (sB _ _ (k9 (nd_at ND 10 13) vLv8))
              have oSH := ch _ _ (nd_at ND 7 16) (sB _ _ (k9 (nd_at ND 7 13) vSn8))
              have hLH : Sts K H6 ls' L := hL9.imp fun a zs z => iH _ _ (sqt_same sB z)
              have hCH : Sts K H6 csA CA := hCA.imp fun a zs z => iH _ _ (sqt_same sB (i89 _ _ (iA8 _ _ z)))
              have dN : Dk K C H6 p0 dx0 (.ref tx') lv' e2 cm0 gn0 (j + 1) := ⟨.ref x6, q6, false, r6, ls', [], csA, M6, L, [], CA, gsA, some nx6, hp6', .inr ⟨x6, nx6, rfl, hx6, sx6, rfl⟩, .inr ⟨tx', nx6, rfl, hxH, sx6, rfl⟩, hq6, hM6, vlvH, hLH, ve2H, .nil, vcmH, hCH, vgnH,
                (by simp), Dat.first ndL pL upM1 subL, (fun z => by cases z), lenLB, Nat.zero_le _, lCA, lgA⟩
              have hB := (W3.d1.next.chg c6' nt (notin (nd_at ND 15 16) (nd_at ND 15 13) (nd_at ND 15 10) (nd_at ND 15 7) (nd_at ND 15 9) (nd_at ND 15 6) (nd_at ND 15 3)) (notin (nd_at ND 11 16) (nd_at ND 11 13) (nd_at ND 11 10) (nd_at ND 11 7) (nd_at ND 11 9) (nd_at ND 11 6) (nd_at ND 11 3))
                (notin (nd_at ND 8 16) (nd_at ND 8 13) (nd_at ND 8 10) (nd_at ND 8 7) (nd_at ND 8 9) (nd_at ND 8 6) (nd_at ND 8 3)) (notin (nd_at ND 5 16) (nd_at ND 5 13) (nd_at ND 5 10) (nd_at ND 5 7) (nd_at ND 5 9) (nd_at ND 5 6) (nd_at ND 5 3))
                (notin (nd_at ND 2 16) (nd_at ND 2 13) (nd_at ND 2 10) (nd_at ND 2 7) (nd_at ND 2 9) (nd_at ND 2 6) (nd_at ND 2 3)))
              have WN : Wd K C H6 cs l D Hd Lv Sn Cm Gn p0 p1 dx0 dx1 _ hv1 lv' lv1 e2 sn1 cm0 cm1 gn0 gn1 (j + 1) := {
                nd := nd2
                ol := c6' _ _ (notin (nd_at ND 0 16) (nd_at ND 0 13) (nd_at ND 0 10) (nd_at ND 0 7) (nd_at ND 0 9) (nd_at ND 0 6) (nd_at ND 0 3)) W3.ol
                oD := c6' _ _ (notin (nd_at ND 14 16) (nd_at ND 14 13) (nd_at ND 14 10) (nd_at ND 14 7) (nd_at ND 14 9) (nd_at ND 14 6) (nd_at ND 14 3)) W3.oD
                oH := oHH
                oL := oLH
                oS := oSH
                oC := c6' _ _ (notin (nd_at ND 4 16) (nd_at ND 4 13) (nd_at ND 4 10) (nd_at ND 4 7) (nd_at ND 4 9) (nd_at ND 4 6) (nd_at ND 4 3)) W3.oC
                oG := c6' _ _ (notin (nd_at ND 1 16) (nd_at ND 1 13) (nd_at ND 1 10) (nd_at ND 1 7) (nd_at ND 1 9) (nd_at ND 1 6) (nd_at ND 1 3)) W3.oG
                d0 := dN
                d1 := hB }
              exact last_look WN j1 (fun σ' G' hσ s' => ⟨hσ, _, _, _, _, _, _, WN.same s'⟩)
          | false =>
            skip
            refine iteF ?_
            refine ⟨_, rfl, t, _, _, _, rfl, rfl, hDA.1, at0 rfl, rfl, _, rfl, ?_⟩
            rw [dec_str]
            refine iteF' (by decide +kernel) ?_
            obtain ⟨GB, hGB⟩ : ∃ GB, GB = GA := ⟨_, rfl⟩
            have cB := cA; have hpB := hpA; have veB := veA
            rw [← hGB] at cB hpB veB
            rw [← hGB]
            have iB : ∀ a xs, SqT K G3 a xs → SqT K GB a xs := fun _ _ z => sqt_chgS cB nt z
            have hDB : DeedAt K GB t _ := hD.imp iB
            have oDB := cB _ _ (notin (nd_at ND 14 16) (nd_at ND 14 13) (nd_at ND 14 10) (nd_at ND 14 7) (nd_at ND 14 9) (nd_at ND 14 6) (nd_at ND 14 3)) W3.oD
            have hqB := iB _ _ hq
            have hMB : Sts K GB ys M := hM.imp iB
            have hhB : HeldV K GB h m := hh.imp iB
            have holdB : HoldM K GB h M m := by
              rcases hhB with ⟨e1, e2⟩ | z
              · refine .inl ⟨e1, ?_, e2⟩
                have d2 := dat
                rw [e2] at d2
                exact d2.mnone
              · exact .inr z
            have lenM : M.length < 63 := by
              have := dat.pm.length_eq
              have l2 := List.length_filter_le (fun k => !decide (m = some k)) L
              omega
            refine ⟨_, rfl, _, rfl, D, _, _, _, rfl, rfl, SqL.of oDB, at0 rfl, _, rfl, p0, t, dx0, h, .ref qa, b, _, rfl, hpB, hDB, ?_⟩
            have mne : m ≠ some n' := fun z => by rw [z] at hf; simp [freedB] at hf
            refine ⟨p0, dx0, qa, x, h, b, ys, M, m, n', rfl, hpB, hqB, hMB, hDB.2, holdB, lenM, ?_⟩
            rw [if_neg mne]
            intro l6 H6 hl6 ch out
            obtain ⟨hl6v, q6, ys6, hq6, hM6, hp6'⟩ := out
            have datN := datA
            have c6' : ChgS SS G3 H6 := cB.trans (Chg.s ch (mem (by simp)))
            have iH : ∀ a xs, SqT K GB a xs → SqT K H6 a xs := fun _ _ z => sqt_chgI hpB ch z
            have i3H : ∀ a xs, SqT K G3 a xs → SqT K H6 a xs := fun _ _ z => sqt_chgS c6' nt z
            have nEp : e ≠ p0 := ne_of veB hpB (by intro z; cases z)
            have vEH := ch _ _ nEp veB
            refine ⟨_, rfl, _, _, rfl, .inr ⟨l6, e, [], [], [], 2, rfl, rfl, hl6v, vEH, .nil, .nil, rfl, by decide, fun _ z => absurd z List.not_mem_nil⟩, ?_⟩
            refine ⟨_, rfl, iteF' rfl ?_⟩
            have nd1 : [l, Gn, gn1, gn0, Cm, cm1, cm0, Sn, sn1, sn0, Lv, lv1, lv', Hd, D, p1, p0].Nodup := by
              rcases nl with e1 | e1
              · rw [e1]; exact ND
              · exact nd_set 12 ND fun mm => all _ mm (by
                  cases z : G3 lv' with
                  | none => rfl
                  | some o => rw [s4 _ _ z] at e1; cases e1)
            have nd2 := nd1
            have lst_ne : ∀ {y : Addr} {zs : List V}, GB y = some (.lst zs) → y ≠ p0 := fun h => ne_of h hpB (by intro z; cases z)
            rw [← hGB] at vlvA hsnA hcmA hgnA oHA oSA vLvA
            have vlvH := ch _ _ (lst_ne vlvA) vlvA
            have vsnH := ch _ _ (lst_ne hsnA) hsnA
            have vcmH := ch _ _ (lst_ne hcmA) hcmA
            have vgnH := ch _ _ (lst_ne hgnA) hgnA
            have oHH := ch _ _ (nd_at ND 13 16) oHA
            have oLH := ch _ _ (nd_at ND 10 16) vLvA
            have oSH := ch _ _ (nd_at ND 7 16) oSA
            rw [← hGB] at hLA hCA
            have hLH : Sts K H6 ls' L := hLA.imp iH
            have hCH : Sts K H6 csA CA := hCA.imp iH
            have dN : Dk K C H6 p0 dx0 hv0 lv' sn0 cm0 gn0 (j + 1) := ⟨h, q6, b, ys6, ls', zs, csA, M, L, Z, CA, gsA, m, hp6', hh.imp i3H, hhv.imp i3H, hq6, hM6, vlvH, hLH, vsnH, hZ.imp i3H, vcmH, hCH, vgnH,
              hbz, datN, zn, lenLB, by omega, lCA, lgA⟩
            have hB := (W3.d1.next.chg c6' nt (notin (nd_at ND 15 16) (nd_at ND 15 13) (nd_at ND 15 10) (nd_at ND 15 7) (nd_at ND 15 9) (nd_at ND 15 6) (nd_at ND 15 3)) (notin (nd_at ND 11 16) (nd_at ND 11 13) (nd_at ND 11 10) (nd_at ND 11 7) (nd_at ND 11 9) (nd_at ND 11 6) (nd_at ND 11 3))
              (notin (nd_at ND 8 16) (nd_at ND 8 13) (nd_at ND 8 10) (nd_at ND 8 7) (nd_at ND 8 9) (nd_at ND 8 6) (nd_at ND 8 3)) (notin (nd_at ND 5 16) (nd_at ND 5 13) (nd_at ND 5 10) (nd_at ND 5 7) (nd_at ND 5 9) (nd_at ND 5 6) (nd_at ND 5 3))
              (notin (nd_at ND 2 16) (nd_at ND 2 13) (nd_at ND 2 10) (nd_at ND 2 7) (nd_at ND 2 9) (nd_at ND 2 6) (nd_at ND 2 3)))
            have WN : Wd K C H6 cs l D Hd Lv Sn Cm Gn p0 p1 dx0 dx1 hv0 hv1 lv' lv1 sn0 sn1 cm0 cm1 gn0 gn1 (j + 1) := {
              nd := nd2
              ol := c6' _ _ (notin (nd_at ND 0 16) (nd_at ND 0 13) (nd_at ND 0 10) (nd_at ND 0 7) (nd_at ND 0 9) (nd_at ND 0 6) (nd_at ND 0 3)) W3.ol
              oD := c6' _ _ (notin (nd_at ND 14 16) (nd_at ND 14 13) (nd_at ND 14 10) (nd_at ND 14 7) (nd_at ND 14 9) (nd_at ND 14 6) (nd_at ND 14 3)) W3.oD
              oH := oHH
              oL := oLH
              oS := oSH
              oC := c6' _ _ (notin (nd_at ND 4 16) (nd_at ND 4 13) (nd_at ND 4 10) (nd_at ND 4 7) (nd_at ND 4 9) (nd_at ND 4 6) (nd_at ND 4 3)) W3.oC
              oG := c6' _ _ (notin (nd_at ND 1 16) (nd_at ND 1 13) (nd_at ND 1 10) (nd_at ND 1 7) (nd_at ND 1 9) (nd_at ND 1 6) (nd_at ND 1 3)) W3.oG
              d0 := dN
              d1 := hB }
            exact last_look WN j1 (fun σ' G' hσ s' => ⟨hσ, _, _, _, _, _, _, WN.same s'⟩)
        | don x9 n' =>
          refine ⟨_, rfl, t, _, _, _, rfl, rfl, hD6.1, at0 rfl, rfl, _, rfl, ?_⟩
          rw [dec_str]
          refine iteF' (by decide +kernel) ?_
          refine ⟨_, rfl, t, _, _, _, rfl, rfl, hD6.1, at0 rfl, rfl, _, rfl, ?_⟩
          rw [dec_str]
          refine iteF' (by decide +kernel) ?_
          obtain ⟨GA, hGA⟩ : ∃ GA, GA = G6 := ⟨_, rfl⟩
          have cA := c6; have vLvA := vLv; have vlvA := vlv'; have hLA := hL6; have hDA := hD6; have oHA := k6 (nd_at ND 13 10) W3.oH; have oSA := k6 (nd_at ND 7 10) W3.oS; have veA := ve6; have hpA := hp6; have hsnA := k6 (nd_at ND 9 10) hsn; have hcmA := k6 (nd_at ND 6 10) hcm; have hgnA := k6 (nd_at ND 3 10) hgn
          rw [← hGA] at cA vLvA vlvA hLA hDA oHA oSA veA hpA hsnA hcmA hgnA
          rw [← hGA]
          obtain ⟨csA, ecs⟩ : ∃ csA, csA = cs2 := ⟨_, rfl⟩
          obtain ⟨CA, eCA⟩ : ∃ CA, CA = Cd := ⟨_, rfl⟩
          obtain ⟨gsA, egs⟩ : ∃ gsA, gsA = gs := ⟨_, rfl⟩
          have hCA : Sts K GA cs2 Cd := hC.imp (fun _ _ z => sqt_chgS cA nt z)
          have datA := dat
          rw [← ecs] at hcmA
          rw [← egs] at hgnA
          rw [← ecs, ← eCA] at hCA
          rw [← eCA] at datA
          have lCA : CA.length ≤ j + 1 := by rw [eCA]; omega
          have lgA : gsA.length ≤ j + 1 := by rw [egs]; omega
          have iA : ∀ a xs, SqT K G3 a xs → SqT K GA a xs := fun _ _ z => sqt_chgS cA nt z
          refine ⟨_, rfl, _, rfl, Hd, _, _, _, rfl, rfl, SqL.of oHA, at0 rfl, _, rfl, _, t, _, _, rfl, hhv.imp iA, hDA, ?_⟩
          refine ⟨_, rfl, ?_⟩
          have lenLB : ((L.filter fun k => !decide (k = n'))).length ≤ j + 1 := Nat.le_trans (List.length_filter_le _ _) (by omega)
          have datF : ∀ k, m = some k → (fun k => !decide (k = n')) k = true → Dat (L.filter fun k => !decide (k = n')) (M.filter fun k => !decide (k = n')) m CA := fun k e1 e2 => by
            have d2 := datA
            rw [e1] at d2 ⊢
            exact d2.keep (fun k => !decide (k = n')) e2
          cases hf : freedB m (.don x9 n') with
          | true =>
            refine iteT ?_
            refine ⟨Nat.zero_le _, ?_⟩
            intro e2 he2
            have s7 := same_upd (o := .lst []) he2
            have c7 := cA.new (o := .lst []) he2
            refine ⟨_, rfl, _, rfl, Sn, _, _, _, rfl, rfl, s7 _ _ oSA, rfl, ?_⟩
            obtain ⟨G8, hG8⟩ : ∃ G8, G8 = upd (upd GA e2 (.lst [])) Sn (.lst (pr0 (.ref e2) (.ref sn1))) := ⟨_, rfl⟩
            rw [← (show G8 = upd (upd GA e2 (.lst [])) Sn (.lst (List.set [.ref sn0, .ref sn1] (Int.toNat 0) (.ref e2))) from hG8)]
            have c8 : ChgS SS G3 G8 := by rw [hG8]; exact c7.put (mem (by simp))
            have vSn8 : G8 Sn = some (.lst (pr0 (.ref e2) (.ref sn1))) := by rw [hG8]; exact upd_same
            have k8 : ∀ {x : Addr} {o : HO}, x ≠ Sn → GA x = some o → G8 x = some o := fun n e => by rw [hG8, upd_ne n]; exact s7 _ _ e
            have ne2 : e2 ≠ Sn := (ne_of_none oSA he2).symm
            have ve2 : G8 e2 = some (.lst []) := by rw [hG8, upd_ne ne2]; exact upd_same
            have oH8 := k8 (nd_at ND 13 7) oHA
            have vLv8 := k8 (nd_at ND 10 7) vLvA
            have nlS : lv' ≠ Sn := by
              rcases nl with e1 | e1
              · rw [e1]; exact (nd_at ND 12 7)
              · exact (ne_of_none (s4 _ _ W3.oS) e1).symm
            have vlv8 := k8 nlS vlvA
            have iA8 : ∀ a xs, SqT K GA a xs → SqT K G8 a xs := fun _ _ z => by rw [hG8]; exact sqt_chg ⟨_, s7 _ _ oSA⟩ Chg.self (sqt_same s7 z)
            have hL8 : Sts K G8 ls' (L.filter fun k => !decide (k = n')) := hLA.imp iA8
            have i8 : ∀ a xs, SqT K G3 a xs → SqT K G8 a xs := fun _ _ z => sqt_chgS c8 nt z
            have nlH : lv' ≠ Hd := by
              rcases nl with e1 | e1
              · rw [e1]; exact (nd_at ND 12 13)
              · exact (ne_of_none (s4 _ _ W3.oH) e1).symm
            refine ⟨_, rfl, _, rfl, Lv, _, _, _, rfl, rfl, SqL.of vLv8, at0 rfl, lv', ls', (L.filter fun k => !decide (k = n')), rfl, rfl, SqL.of vlv8, hL8, fun el => ?_, fun x nx hx hnx tx least => ?_⟩
            · skip
              refine ⟨_, rfl, _, rfl, Hd, _, _, _, rfl, rfl, oH8, rfl, ?_⟩
              obtain ⟨G9, hG9⟩ : ∃ G9, G9 = upd G8 Hd (.lst (pr0 V.non hv1)) := ⟨_, rfl⟩
              rw [← (show G9 = upd G8 Hd (.lst (List.set [hv0, hv1] (Int.toNat 0) V.non)) from hG9)]
              have c9 : ChgS SS G3 G9 := by rw [hG9]; exact c8.put (mem (by simp))
              have k9 : ∀ {x : Addr} {o : HO}, x ≠ Hd → G8 x = some o → G9 x = some o := fun n e => by rw [hG9, upd_ne n]; exact e
              have vHd9 : G9 Hd = some (.lst (pr0 V.non hv1)) := by rw [hG9]; exact upd_same
              have i89 : ∀ a xs, SqT K G8 a xs → SqT K G9 a xs := fun _ _ z => by rw [hG9]; exact sqt_chg ⟨_, oH8⟩ Chg.self z
              have ne2H : e2 ≠ Hd := fun z => by rw [z, s7 _ _ oHA |> fun _ => oHA] at he2; cases he2
              have vlv9 := k9 nlH vlv8
              have hL9 : Sts K G9 ls' (L.filter fun k => !decide (k = n')) := hL8.imp i89
              refine ⟨_, rfl, _, rfl, Lv, _, _, _, rfl, rfl, SqL.of (k9 (nd_at ND 10 13) vLv8), at0 rfl, Nat.zero_le _, ?_⟩
              intro e3 he3
              have s10 := same_upd (o := .lst []) he3
              refine ⟨.list ((L.filter fun k => !decide (k = n')).map stD), .list [], .lst (SqL.of (s10 _ _ vlv9)) (hL9.imp fun a zs z => sqt_same s10 z).dps, .lst (SqL.of upd_same) .nil, shaped_lsts _, by decide, _, rfl, ?_⟩
              rw [eqv_nil]
              refine iteF' (by simp [el]) ?_
              obtain ⟨GB, hGB⟩ : ∃ GB, GB = upd G9 e3 (.lst []) := ⟨_, rfl⟩
              have sB : Same G9 GB := by rw [hGB]; exact s10
              have cB : ChgS SS G3 GB := by rw [hGB]; exact c9.new he3
              have hpB : GB p0 = some (.ins C dx0 (deskF h (.ref qa) b)) := sB _ _ (k9 (nd_at ND 16 13) (k8 (nd_at ND 16 7) hpA))
              have neS : e ≠ Sn := ne_of_none W3.oS he |> Ne.symm
              have neH : e ≠ Hd := ne_of_none W3.oH he |> Ne.symm
              have veB : GB e = some (.lst []) := sB _ _ (k9 neH (k8 neS veA))
              rw [← hGB]
              have iB : ∀ a xs, SqT K G3 a xs → SqT K GB a xs := fun _ _ z => sqt_chgS cB nt z
              have hDB : DeedAt K GB t _ := hD.imp iB
              have oDB := cB _ _ (notin (nd_at ND 14 16) (nd_at ND 14 13) (nd_at ND 14 10) (nd_at ND 14 7) (nd_at ND 14 9) (nd_at ND 14 6) (nd_at ND 14 3)) W3.oD
              have hqB := iB _ _ hq
              have hMB : Sts K GB ys M := hM.imp iB
              have hhB : HeldV K GB h m := hh.imp iB
              have holdB : HoldM K GB h M m := by
                rcases hhB with ⟨e1, e2⟩ | z
                · refine .inl ⟨e1, ?_, e2⟩
                  have d2 := dat
                  rw [e2] at d2
                  exact d2.mnone
                · exact .inr z
              have lenM : M.length < 63 := by
                have := dat.pm.length_eq
                have l2 := List.length_filter_le (fun k => !decide (m = some k)) L
                omega
              refine ⟨_, rfl, _, rfl, D, _, _, _, rfl, rfl, SqL.of oDB, at0 rfl, _, rfl, p0, t, dx0, h, .ref qa, b, _, rfl, hpB, hDB, ?_⟩
              by_cases mn : m = none
              · refine ⟨p0, dx0, qa, x9, h, b, ys, M, m, n', rfl, hpB, hqB, hMB, hDB.2, holdB, lenM, ?_⟩
                rw [if_neg (by rw [mn]; simp [isSeat])]
                intro l6 H6 hl6 ch out
                obtain ⟨hl6v, q6, ys6, hq6, hM6, hp6'⟩ := out
                have c6' : ChgS SS G3 H6 := cB.trans (Chg.s ch (mem (by simp)))
                have iH : ∀ a xs, SqT K GB a xs → SqT K H6 a xs := fun _ _ z => sqt_chgI hpB ch z
                have i3H : ∀ a xs, SqT K G3 a xs → SqT K H6 a xs := fun _ _ z => sqt_chgS c6' nt z
                have nEp : e ≠ p0 := ne_of veB hpB (by intro z; cases z)
                have vEH := ch _ _ nEp veB
                refine ⟨_, rfl, _, _, rfl, .inr ⟨l6, e, [], [], [], 2, rfl, rfl, hl6v, vEH, .nil, .nil, rfl, by decide, fun _ z => absurd z List.not_mem_nil⟩, ?_⟩
                refine ⟨_, rfl, iteF' rfl ?_⟩
                have e2SS : e2 ∉ SS := notin (ne_of_none hpA he2).symm (ne_of_none oHA he2).symm (ne_of_none vLvA he2).symm (ne_of_none oSA he2).symm (ne_of_none hsnA he2).symm (ne_of_none hcmA he2).symm (ne_of_none hgnA he2).symm
                have e23 : G3 e2 = none := cA.back he2 e2SS
                have e2lv : e2 ≠ lv' := (ne_of_none vlvA he2).symm
                have nd1 : [l, Gn, gn1, gn0, Cm, cm1, cm0, Sn, sn1, sn0, Lv, lv1, lv', Hd, D, p1, p0].Nodup := by
                  rcases nl with e1 | e1
                  · rw [e1]; exact ND
                  · exact nd_set 12 ND fun mm => all _ mm (by
                      cases z : G3 lv' with
                      | none => rfl
                      | some o => rw [s4 _ _ z] at e1; cases e1)
                have nd2 : [l, Gn, gn1, gn0, Cm, cm1, cm0, Sn, sn1, e2, Lv, lv1, lv', Hd, D, p1, p0].Nodup := nd_set 9 nd1 fun mm => by
                  have mm' : e2 ∈ [l, Gn, gn1, gn0, Cm, cm1, cm0, Sn, sn1, sn0, Lv, lv1, lv0, Hd, D, p1, p0].set 12 lv' := mm
                  rcases List.mem_or_eq_of_mem_set mm' with z | z
                  · exact all _ z e23
                  · exact e2lv z
                have lst_ne : ∀ {y : Addr} {zs : List V}, GB y = some (.lst zs) → y ≠ p0 := fun h => ne_of h hpB (by intro z; cases z)
                have vlvB := sB _ _ vlv9
                have vlvH := ch _ _ (lst_ne vlvB) vlvB
                have ve2B := sB _ _ (k9 ne2H ve2)
                have ve2H := ch _ _ (lst_ne ve2B) ve2B
                have vcmB := sB _ _ (k9 (nd_at ND 6 13) (k8 (nd_at ND 6 7) hcmA))
                have vcmH := ch _ _ (lst_ne vcmB) vcmB
                have vgnB := sB _ _ (k9 (nd_at ND 3 13) (k8 (nd_at ND 3 7) hgnA))
                have vgnH := ch _ _ (lst_ne vgnB) vgnB
                have oHH := ch _ _ (lst_ne (sB _ _ vHd9)) (sB _ _ vHd9)
                have oLH := ch _ _ (nd_at ND 10 16) (sB _ _ (k9 (nd_at ND 10 13) vLv8))
                have oSH := ch _ _ (nd_at ND 7 16) (sB _ _ (k9 (nd_at ND 7 13) vSn8))
                have hLH : Sts K H6 ls' (L.filter fun k => !decide (k = n')) := hL9.imp fun a zs z => iH _ _ (sqt_same sB z)
                have hCH : Sts K H6 csA CA := hCA.imp fun a zs z => iH _ _ (sqt_same sB (i89 _ _ (iA8 _ _ z)))
                have datN : Dat (L.filter fun k => !decide (k = n')) (M.filter fun k => !decide (k = n')) m CA := by
                  have d2 := datA
                  rw [mn] at d2 ⊢
                  rw [d2.non rfl, d2.mnone]
                  exact Dat.empty
                have dN : Dk K C H6 p0 dx0 .non lv' e2 cm0 gn0 (j + 1) := ⟨h, q6, b, ys6, ls', [], csA, (M.filter fun k => !decide (k = n')), (L.filter fun k => !decide (k = n')), [], CA, gsA, m, hp6', hh.imp i3H, .inl ⟨rfl, mn⟩, hq6, hM6, vlvH, hLH, ve2H, .nil, vcmH, hCH, vgnH,
                  (by rw [hbz, zn mn]), datN, fun _ => rfl, lenLB, Nat.zero_le _, lCA, lgA⟩
                have hB := (W3.d1.next.chg c6' nt (notin (nd_at ND 15 16) (nd_at ND 15 13) (nd_at ND 15 10) (nd_at ND 15 7) (nd_at ND 15 9) (nd_at ND 15 6) (nd_at ND 15 3)) (notin (nd_at ND 11 16) (nd_at ND 11 13) (nd_at ND 11 10) (nd_at ND 11 7) (nd_at ND 11 9) (nd_at ND 11 6) (nd_at ND 11 3))
                  (notin (nd_at ND 8 16) (nd_at ND 8 13) (nd_at ND 8 10) (nd_at ND 8 7) (nd_at ND 8 9) (nd_at ND 8 6) (nd_at ND 8 3)) (notin (nd_at ND 5 16) (nd_at ND 5 13) (nd_at ND 5 10) (nd_at ND 5 7) (nd_at ND 5 9) (nd_at ND 5 6) (nd_at ND 5 3))
                  (notin (nd_at ND 2 16) (nd_at ND 2 13) (nd_at ND 2 10) (nd_at ND 2 7) (nd_at ND 2 9) (nd_at ND 2 6) (nd_at ND 2 3)))
                have WN : Wd K C H6 cs l D Hd Lv Sn Cm Gn p0 p1 dx0 dx1 _ hv1 lv' lv1 e2 sn1 cm0 cm1 gn0 gn1 (j + 1) := {
                  nd := nd2
                  ol := c6' _ _ (notin (nd_at ND 0 16) (nd_at ND 0 13) (nd_at ND 0 10) (nd_at ND 0 7) (nd_at ND 0 9) (nd_at ND 0 6) (nd_at ND 0 3)) W3.ol
                  oD := c6' _ _ (notin (nd_at ND 14 16) (nd_at ND 14 13) (nd_at ND 14 10) (nd_at ND 14 7) (nd_at ND 14 9) (nd_at ND 14 6) (nd_at ND 14 3)) W3.oD
                  oH := oHH
                  oL := oLH
                  oS := oSH
                  oC := c6' _ _ (notin (nd_at ND 4 16) (nd_at ND 4 13) (nd_at ND 4 10) (nd_at ND 4 7) (nd_at ND 4 9) (nd_at ND 4 6) (nd_at ND 4 3)) W3.oC
                  oG := c6' _ _ (notin (nd_at ND 1 16) (nd_at ND 1 13) (nd_at ND 1 10) (nd_at ND 1 7) (nd_at ND 1 9) (nd_at ND 1 6) (nd_at ND 1 3)) W3.oG
                  d0 := dN
                  d1 := hB }
                exact last_look WN j1 (fun σ' G' hσ s' => ⟨hσ, _, _, _, _, _, _, WN.same s'⟩)
              · have pos := don_pos hf mn
                refine ⟨p0, dx0, qa, x9, h, b, ys, M, m, n', rfl, hpB, hqB, hMB, hDB.2, holdB, lenM, ?_⟩
                rw [if_pos pos]
                intro l6 H6 hl6 ch out
                have pL := done_perm datA pos
                rw [el] at pL
                have eM := List.Perm.eq_nil pL
                rw [eM] at out
                rcases out with ⟨_, hl6v, q6, hq6, hp6'⟩ | ⟨_, _, _, _, _, _, z, _⟩
                · skip
                  have c6' : ChgS SS G3 H6 := cB.trans (Chg.s ch (mem (by simp)))
                  have iH : ∀ a xs, SqT K GB a xs → SqT K H6 a xs := fun _ _ z => sqt_chgI hpB ch z
                  have i3H : ∀ a xs, SqT K G3 a xs → SqT K H6 a xs := fun _ _ z => sqt_chgS c6' nt z
                  have nEp : e ≠ p0 := ne_of veB hpB (by intro z; cases z)
                  have vEH := ch _ _ nEp veB
                  refine ⟨_, rfl, _, _, rfl, .inr ⟨l6, e, [], [], [], 2, rfl, rfl, hl6v, vEH, .nil, .nil, rfl, by decide, fun _ z => absurd z List.not_mem_nil⟩, ?_⟩
                  refine ⟨_, rfl, iteF' rfl ?_⟩
                  have e2SS : e2 ∉ SS := notin (ne_of_none hpA he2).symm (ne_of_none oHA he2).symm (ne_of_none vLvA he2).symm (ne_of_none oSA he2).symm (ne_of_none hsnA he2).symm (ne_of_none hcmA he2).symm (ne_of_none hgnA he2).symm
                  have e23 : G3 e2 = none := cA.back he2 e2SS
                  have e2lv : e2 ≠ lv' := (ne_of_none vlvA he2).symm
                  have nd1 : [l, Gn, gn1, gn0, Cm, cm1, cm0, Sn, sn1, sn0, Lv, lv1, lv', Hd, D, p1, p0].Nodup := by
                    rcases nl with e1 | e1
                    · rw [e1]; exact ND
                    · exact nd_set 12 ND fun mm => all _ mm (by
                        cases z : G3 lv' with
                        | none => rfl
                        | some o => rw [s4 _ _ z] at e1; cases e1)
                  have nd2 : [l, Gn, gn1, gn0, Cm, cm1, cm0, Sn, sn1, e2, Lv, lv1, lv', Hd, D, p1, p0].Nodup := nd_set 9 nd1 fun mm => by
                    have mm' : e2 ∈ [l, Gn, gn1, gn0, Cm, cm1, cm0, Sn, sn1, sn0, Lv, lv1, lv0, Hd, D, p1, p0].set 12 lv' := mm
                    rcases List.mem_or_eq_of_mem_set mm' with z | z
                    · exact all _ z e23
                    · exact e2lv z
                  have lst_ne : ∀ {y : Addr} {zs : List V}, GB y = some (.lst zs) → y ≠ p0 := fun h => ne_of h hpB (by intro z; cases z)
                  have vlvB := sB _ _ vlv9
                  have vlvH := ch _ _ (lst_ne vlvB) vlvB
                  have ve2B := sB _ _ (k9 ne2H ve2)
                  have ve2H := ch _ _ (lst_ne ve2B) ve2B
                  have vcmB := sB _ _ (k9 (nd_at ND 6 13) (k8 (nd_at ND 6 7) hcmA))
                  have vcmH := ch _ _ (lst_ne vcmB) vcmB
                  have vgnB := sB _ _ (k9 (nd_at ND 3 13) (k8 (nd_at ND 3 7) hgnA))
                  have vgnH := ch _ _ (lst_ne vgnB) vgnB
                  have oHH := ch _ _ (lst_ne (sB _ _ vHd9)) (sB _ _ vHd9)
                  have oLH := ch _ _ (nd_at ND 10 16) (sB _ _ (k9 (nd_at ND 10 13) vLv8))
                  have oSH := ch _ _ (nd_at ND 7 16) (sB _ _ (k9 (nd_at ND 7 13) vSn8))
                  have hLH : Sts K H6 ls' (L.filter fun k => !decide (k = n')) := hL9.imp fun a zs z => iH _ _ (sqt_same sB z)
                  have hCH : Sts K H6 csA CA := hCA.imp fun a zs z => iH _ _ (sqt_same sB (i89 _ _ (iA8 _ _ z)))
                  have datN : Dat (L.filter fun k => !decide (k = n')) [] none CA := by rw [el]; exact Dat.empty
                  have dN : Dk K C H6 p0 dx0 .non lv' e2 cm0 gn0 (j + 1) := ⟨.non, q6, false, [], ls', [], csA, [], (L.filter fun k => !decide (k = n')), [], CA, gsA, none, hp6', .inl ⟨rfl, rfl⟩, .inl ⟨rfl, rfl⟩, hq6, .nil, vlvH, hLH, ve2H, .nil, vcmH, hCH, vgnH,
                    (by simp), datN, fun _ => rfl, lenLB, Nat.zero_le _, lCA, lgA⟩
                  have hB := (W3.d1.next.chg c6' nt (notin (nd_at ND 15 16) (nd_at ND 15 13) (nd_at ND 15 10) (nd_at ND 15 7) (nd_at ND 15 9) (nd_at ND 15 6) (nd_at ND 15 3)) (notin (nd_at ND 11 16) (nd_at ND 11 13) (nd_at ND 11 10) (nd_at ND 11 7) (nd_at ND 11 9) (nd_at ND 11 6) (nd_at ND 11 3))
                    (notin (nd_at ND 8 16) (nd_at ND 8 13) (nd_at ND 8 10) (nd_at ND 8 7) (nd_at ND 8 9) (nd_at ND 8 6) (nd_at ND 8 3)) (notin (nd_at ND 5 16) (nd_at ND 5 13) (nd_at ND 5 10) (nd_at ND 5 7) (nd_at ND 5 9) (nd_at ND 5 6) (nd_at ND 5 3))
                    (notin (nd_at ND 2 16) (nd_at ND 2 13) (nd_at ND 2 10) (nd_at ND 2 7) (nd_at ND 2 9) (nd_at ND 2 6) (nd_at ND 2 3)))
                  have WN : Wd K C H6 cs l D Hd Lv Sn Cm Gn p0 p1 dx0 dx1 _ hv1 lv' lv1 e2 sn1 cm0 cm1 gn0 gn1 (j + 1) := {
                    nd := nd2
                    ol := c6' _ _ (notin (nd_at ND 0 16) (nd_at ND 0 13) (nd_at ND 0 10) (nd_at ND 0 7) (nd_at ND 0 9) (nd_at ND 0 6) (nd_at ND 0 3)) W3.ol
                    oD := c6' _ _ (notin (nd_at ND 14 16) (nd_at ND 14 13) (nd_at ND 14 10) (nd_at ND 14 7) (nd_at ND 14 9) (nd_at ND 14 6) (nd_at ND 14 3)) W3.oD
                    oH := oHH
                    oL := oLH
                    oS := oSH
                    oC := c6' _ _ (notin (nd_at ND 4 16) (nd_at ND 4 13) (nd_at ND 4 10) (nd_at ND 4 7) (nd_at ND 4 9) (nd_at ND 4 6) (nd_at ND 4 3)) W3.oC
                    oG := c6' _ _ (notin (nd_at ND 1 16) (nd_at ND 1 13) (nd_at ND 1 10) (nd_at ND 1 7) (nd_at ND 1 9) (nd_at ND 1 6) (nd_at ND 1 3)) W3.oG
                    d0 := dN
                    d1 := hB }
                  exact last_look WN j1 (fun σ' G' hσ s' => ⟨hσ, _, _, _, _, _, _, WN.same s'⟩)
                · cases z
            · skip
              refine ⟨_, rfl, _, rfl, Hd, _, _, _, rfl, rfl, oH8, rfl, ?_⟩
              obtain ⟨G9, hG9⟩ : ∃ G9, G9 = upd G8 Hd (.lst (pr0 x hv1)) := ⟨_, rfl⟩
              rw [← (show G9 = upd G8 Hd (.lst (List.set [hv0, hv1] (Int.toNat 0) x)) from hG9)]
              have c9 : ChgS SS G3 G9 := by rw [hG9]; exact c8.put (mem (by simp))
              have k9 : ∀ {x : Addr} {o : HO}, x ≠ Hd → G8 x = some o → G9 x = some o := fun n e => by rw [hG9, upd_ne n]; exact e
              have vHd9 : G9 Hd = some (.lst (pr0 x hv1)) := by rw [hG9]; exact upd_same
              have i89 : ∀ a xs, SqT K G8 a xs → SqT K G9 a xs := fun _ _ z => by rw [hG9]; exact sqt_chg ⟨_, oH8⟩ Chg.self z
              have ne2H : e2 ≠ Hd := fun z => by rw [z, s7 _ _ oHA |> fun _ => oHA] at he2; cases he2
              have vlv9 := k9 nlH vlv8
              have hL9 : Sts K G9 ls' (L.filter fun k => !decide (k = n')) := hL8.imp i89
              refine ⟨_, rfl, _, rfl, Lv, _, _, _, rfl, rfl, SqL.of (k9 (nd_at ND 10 13) vLv8), at0 rfl, Nat.zero_le _, ?_⟩
              intro e3 he3
              have s10 := same_upd (o := .lst []) he3
              refine ⟨.list ((L.filter fun k => !decide (k = n')).map stD), .list [], .lst (SqL.of (s10 _ _ vlv9)) (hL9.imp fun a zs z => sqt_same s10 z).dps, .lst (SqL.of upd_same) .nil, shaped_lsts _, by decide, _, rfl, ?_⟩
              rw [eqv_nil]
              have mn : m ≠ none := fun hm => by
                have := dat.non hm
                rw [this] at hnx
                exact absurd hnx List.not_mem_nil
              have pos := don_pos hf mn
              obtain ⟨tx', ex', zx'⟩ := id tx
              subst ex'
              refine iteT' (by rw [decide_eq_false (fun z => by rw [z] at hnx; exact List.not_mem_nil hnx)]; rfl) ?_
              refine ⟨_, rfl, _, rfl, Hd, _, _, _, rfl, rfl, SqL.of (s10 _ _ vHd9), at0 rfl, by show 2 ≤ sizeLine; decide, ?_⟩
              intro t2 ht2
              refine ⟨by show 1 ≤ sizeLine; decide, ?_⟩
              intro E2 hE2
              have s11 := s10.trans (same_upd (o := .tup [.str "vote", .ref tx']) ht2)
              have s12 := s11.trans (same_upd (o := .lst [.ref t2]) hE2)
              obtain ⟨GB, hGB⟩ : ∃ GB, GB = upd (upd (upd G9 e3 (.lst [])) t2 (.tup [.str "vote", .ref tx'])) E2 (.lst [.ref t2]) := ⟨_, rfl⟩
              have sB : Same G9 GB := by rw [hGB]; exact s12
              have vt2 : GB t2 = some (.tup [.str "vote", .ref tx']) := by rw [hGB]; exact same_upd hE2 _ _ upd_same
              have vE2 : GB E2 = some (.lst [.ref t2]) := by rw [hGB]; exact upd_same
              have cB : ChgS SS G3 GB := c9.trans (Same.s sB)
              have hpB : GB p0 = some (.ins C dx0 (deskF h (.ref qa) b)) := sB _ _ (k9 (nd_at ND 16 13) (k8 (nd_at ND 16 7) hpA))
              rw [← hGB]
              have snx : StN nx := hL8.st nx hnx
              have hxB : TupI K GB (.ref tx') nx := ⟨tx', rfl, sqt_same sB (i89 _ _ zx')⟩
              have iB : ∀ a xs, SqT K G3 a xs → SqT K GB a xs := fun _ _ z => sqt_chgS cB nt z
              have hDB : DeedAt K GB t _ := hD.imp iB
              have oDB := cB _ _ (notin (nd_at ND 14 16) (nd_at ND 14 13) (nd_at ND 14 10) (nd_at ND 14 7) (nd_at ND 14 9) (nd_at ND 14 6) (nd_at ND 14 3)) W3.oD
              have hqB := iB _ _ hq
              have hMB : Sts K GB ys M := hM.imp iB
              have hhB : HeldV K GB h m := hh.imp iB
              have holdB : HoldM K GB h M m := by
                rcases hhB with ⟨e1, e2⟩ | z
                · refine .inl ⟨e1, ?_, e2⟩
                  have d2 := dat
                  rw [e2] at d2
                  exact d2.mnone
                · exact .inr z
              have lenM : M.length < 63 := by
                have := dat.pm.length_eq
                have l2 := List.length_filter_le (fun k => !decide (m = some k)) L
                omega
              refine ⟨_, rfl, _, rfl, D, _, _, _, rfl, rfl, SqL.of oDB, at0 rfl, _, rfl, p0, t, dx0, h, .ref qa, b, _, rfl, hpB, hDB, ?_⟩
              refine ⟨p0, dx0, qa, x9, h, b, ys, M, m, n', rfl, hpB, hqB, hMB, hDB.2, holdB, lenM, ?_⟩
              rw [if_pos pos]
              intro l6 H6 hl6 ch out
              have pL := done_perm datA pos
              have upM1 := datA.up
              have ndL : ((L.filter fun k => !decide (k = n'))).Nodup := datA.nd.filter _
              have subL : ∀ k ∈ (L.filter fun k => !decide (k = n')), k ∈ CA := fun k hk => datA.sub k (List.mem_filter.mp hk).1
              rcases out with ⟨z, _⟩ | ⟨t6, x6, nx6, r6, M6, q6, eM1, hl6v, ht6, hx6, sx6, hq6, hM6, hp6'⟩
              · rw [z] at pL
                rw [List.Perm.eq_nil pL.symm] at hnx
                exact absurd hnx List.not_mem_nil
              rw [eM1] at pL upM1
              have enx := min_first pL upM1 (fun k hk => hL8.st k hk) hnx least
              subst enx
              have c6' : ChgS SS G3 H6 := cB.trans (Chg.s ch (mem (by simp)))
              have iH : ∀ a xs, SqT K GB a xs → SqT K H6 a xs := fun _ _ z => sqt_chgI hpB ch z
              have i3H : ∀ a xs, SqT K G3 a xs → SqT K H6 a xs := fun _ _ z => sqt_chgS c6' nt z
              have nEp : E2 ≠ p0 := ne_of vE2 hpB (by intro z; cases z)
              have vEH := ch _ _ nEp vE2
              have hxH : TupI K H6 (.ref tx') nx6 := by obtain ⟨_, e1, z⟩ := hxB; exact ⟨_, e1, iH _ _ z⟩
              refine ⟨_, rfl, _, _, rfl, .inr ⟨l6, E2, [.ref t6], [.ref t2], _, 2, rfl, rfl, hl6v, vEH, dp_due ht6 hx6, dp_due (iH _ _ (SqT.of vt2)) hxH, rfl, by show 1 < 10000; decide, lv_due _ (by rw [sx6.1]; decide)⟩, ?_⟩
              refine ⟨_, rfl, iteF' rfl ?_⟩
              have e2SS : e2 ∉ SS := notin (ne_of_none hpA he2).symm (ne_of_none oHA he2).symm (ne_of_none vLvA he2).symm (ne_of_none oSA he2).symm (ne_of_none hsnA he2).symm (ne_of_none hcmA he2).symm (ne_of_none hgnA he2).symm
              have e23 : G3 e2 = none := cA.back he2 e2SS
              have e2lv : e2 ≠ lv' := (ne_of_none vlvA he2).symm
              have nd1 : [l, Gn, gn1, gn0, Cm, cm1, cm0, Sn, sn1, sn0, Lv, lv1, lv', Hd, D, p1, p0].Nodup := by
                rcases nl with e1 | e1
                · rw [e1]; exact ND
                · exact nd_set 12 ND fun mm => all _ mm (by
                    cases z : G3 lv' with
                    | none => rfl
                    | some o => rw [s4 _ _ z] at e1; cases e1)
              have nd2 : [l, Gn, gn1, gn0, Cm, cm1, cm0, Sn, sn1, e2, Lv, lv1, lv', Hd, D, p1, p0].Nodup := nd_set 9 nd1 fun mm => by
                have mm' : e2 ∈ [l, Gn, gn1, gn0, Cm, cm1, cm0, Sn, sn1, sn0, Lv, lv1, lv0, Hd, D, p1, p0].set 12 lv' := mm
                rcases List.mem_or_eq_of_mem_set mm' with z | z
                · exact all _ z e23
                · exact e2lv z
              have lst_ne : ∀ {y : Addr} {zs : List V}, GB y = some (.lst zs) → y ≠ p0 := fun h => ne_of h hpB (by intro z; cases z)
              have vlvB := sB _ _ vlv9
              have vlvH := ch _ _ (lst_ne vlvB) vlvB
              have ve2B := sB _ _ (k9 ne2H ve2)
              have ve2H := ch _ _ (lst_ne ve2B) ve2B
              have vcmB := sB _ _ (k9 (nd_at ND 6 13) (k8 (nd_at ND 6 7) hcmA))
              have vcmH := ch _ _ (lst_ne vcmB) vcmB
              have vgnB := sB _ _ (k9 (nd_at ND 3 13) (k8 (nd_at ND 3 7) hgnA))
              have vgnH := ch _ _ (lst_ne vgnB) vgnB
              have oHH := ch _ _ (lst_ne (sB _ _ vHd9)) (sB _ _ vHd9)
              have oLH := ch _ _ (nd_at ND 10 16) (sB _ _ (k9 (nd_at ND 10 13) vLv8))
              have oSH := ch _ _ (nd_at ND 7 16) (sB _ _ (k9 (nd_at ND 7 13) vSn8))
              have hLH : Sts K H6 ls' (L.filter fun k => !decide (k = n')) := hL9.imp fun a zs z => iH _ _ (sqt_same sB z)
              have hCH : Sts K H6 csA CA := hCA.imp fun a zs z => iH _ _ (sqt_same sB (i89 _ _ (iA8 _ _ z)))
              have dN : Dk K C H6 p0 dx0 (.ref tx') lv' e2 cm0 gn0 (j + 1) := ⟨.ref x6, q6, false, r6, ls', [], csA, M6, (L.filter fun k => !decide (k = n')), [], CA, gsA, some nx6, hp6', .inr ⟨x6, nx6, rfl, hx6, sx6, rfl⟩, .inr ⟨tx', nx6, rfl, hxH, sx6, rfl⟩, hq6, hM6, vlvH, hLH, ve2H, .nil, vcmH, hCH, vgnH,
                (by simp), Dat.first ndL pL upM1 subL, (fun z => by cases z), lenLB, Nat.zero_le _, lCA, lgA⟩
              have hB := (W3.d1.next.chg c6' nt (notin (nd_at ND 15 16) (nd_at ND 15 13) (nd_at ND 15 10) (nd_at ND 15 7) (nd_at ND 15 9) (nd_at ND 15 6) (nd_at ND 15 3)) (notin (nd_at ND 11 16) (nd_at ND 11 13) (nd_at ND 11 10) (nd_at ND 11 7) (nd_at ND 11 9) (nd_at ND 11 6) (nd_at ND 11 3))
                (notin (nd_at ND 8 16) (nd_at ND 8 13) (nd_at ND 8 10) (nd_at ND 8 7) (nd_at ND 8 9) (nd_at ND 8 6) (nd_at ND 8 3)) (notin (nd_at ND 5 16) (nd_at ND 5 13) (nd_at ND 5 10) (nd_at ND 5 7) (nd_at ND 5 9) (nd_at ND 5 6) (nd_at ND 5 3))
                (notin (nd_at ND 2 16) (nd_at ND 2 13) (nd_at ND 2 10) (nd_at ND 2 7) (nd_at ND 2 9) (nd_at ND 2 6) (nd_at ND 2 3)))
              have WN : Wd K C H6 cs l D Hd Lv Sn Cm Gn p0 p1 dx0 dx1 _ hv1 lv' lv1 e2 sn1 cm0 cm1 gn0 gn1 (j + 1) := {
                nd := nd2
                ol := c6' _ _ (notin (nd_at ND 0 16) (nd_at ND 0 13) (nd_at ND 0 10) (nd_at ND 0 7) (nd_at ND 0 9) (nd_at ND 0 6) (nd_at ND 0 3)) W3.ol
                oD := c6' _ _ (notin (nd_at ND 14 16) (nd_at ND 14 13) (nd_at ND 14 10) (nd_at ND 14 7) (nd_at ND 14 9) (nd_at ND 14 6) (nd_at ND 14 3)) W3.oD
                oH := oHH
                oL := oLH
                oS := oSH
                oC := c6' _ _ (notin (nd_at ND 4 16) (nd_at ND 4 13) (nd_at ND 4 10) (nd_at ND 4 7) (nd_at ND 4 9) (nd_at ND 4 6) (nd_at ND 4 3)) W3.oC
                oG := c6' _ _ (notin (nd_at ND 1 16) (nd_at ND 1 13) (nd_at ND 1 10) (nd_at ND 1 7) (nd_at ND 1 9) (nd_at ND 1 6) (nd_at ND 1 3)) W3.oG
                d0 := dN
                d1 := hB }
              exact last_look WN j1 (fun σ' G' hσ s' => ⟨hσ, _, _, _, _, _, _, WN.same s'⟩)
          | false =>
            skip
            refine iteF ?_
            refine ⟨_, rfl, t, _, _, _, rfl, rfl, hDA.1, at0 rfl, rfl, _, rfl, ?_⟩
            rw [dec_str]
            refine iteF' (by decide +kernel) ?_
            obtain ⟨GB, hGB⟩ : ∃ GB, GB = GA := ⟨_, rfl⟩
            have cB := cA; have hpB := hpA; have veB := veA
            rw [← hGB] at cB hpB veB
            rw [← hGB]
            have iB : ∀ a xs, SqT K G3 a xs → SqT K GB a xs := fun _ _ z => sqt_chgS cB nt z
            have hDB : DeedAt K GB t _ := hD.imp iB
            have oDB := cB _ _ (notin (nd_at ND 14 16) (nd_at ND 14 13) (nd_at ND 14 10) (nd_at ND 14 7) (nd_at ND 14 9) (nd_at ND 14 6) (nd_at ND 14 3)) W3.oD
            have hqB := iB _ _ hq
            have hMB : Sts K GB ys M := hM.imp iB
            have hhB : HeldV K GB h m := hh.imp iB
            have holdB : HoldM K GB h M m := by
              rcases hhB with ⟨e1, e2⟩ | z
              · refine .inl ⟨e1, ?_, e2⟩
                have d2 := dat
                rw [e2] at d2
                exact d2.mnone
              · exact .inr z
            have lenM : M.length < 63 := by
              have := dat.pm.length_eq
              have l2 := List.length_filter_le (fun k => !decide (m = some k)) L
              omega
            refine ⟨_, rfl, _, rfl, D, _, _, _, rfl, rfl, SqL.of oDB, at0 rfl, _, rfl, p0, t, dx0, h, .ref qa, b, _, rfl, hpB, hDB, ?_⟩
            obtain ⟨k, hk, gk, neg⟩ := don_neg hf
            refine ⟨p0, dx0, qa, x9, h, b, ys, M, m, n', rfl, hpB, hqB, hMB, hDB.2, holdB, lenM, ?_⟩
            rw [if_neg neg]
            intro l6 H6 hl6 ch out
            obtain ⟨hl6v, q6, ys6, hq6, hM6, hp6'⟩ := out
            have datN := datF k hk gk
            have c6' : ChgS SS G3 H6 := cB.trans (Chg.s ch (mem (by simp)))
            have iH : ∀ a xs, SqT K GB a xs → SqT K H6 a xs := fun _ _ z => sqt_chgI hpB ch z
            have i3H : ∀ a xs, SqT K G3 a xs → SqT K H6 a xs := fun _ _ z => sqt_chgS c6' nt z
            have nEp : e ≠ p0 := ne_of veB hpB (by intro z; cases z)
            have vEH := ch _ _ nEp veB
            refine ⟨_, rfl, _, _, rfl, .inr ⟨l6, e, [], [], [], 2, rfl, rfl, hl6v, vEH, .nil, .nil, rfl, by decide, fun _ z => absurd z List.not_mem_nil⟩, ?_⟩
            refine ⟨_, rfl, iteF' rfl ?_⟩
            have nd1 : [l, Gn, gn1, gn0, Cm, cm1, cm0, Sn, sn1, sn0, Lv, lv1, lv', Hd, D, p1, p0].Nodup := by
              rcases nl with e1 | e1
              · rw [e1]; exact ND
              · exact nd_set 12 ND fun mm => all _ mm (by
                  cases z : G3 lv' with
                  | none => rfl
                  | some o => rw [s4 _ _ z] at e1; cases e1)
            have nd2 := nd1
            have lst_ne : ∀ {y : Addr} {zs : List V}, GB y = some (.lst zs) → y ≠ p0 := fun h => ne_of h hpB (by intro z; cases z)
            rw [← hGB] at vlvA hsnA hcmA hgnA oHA oSA vLvA
            have vlvH := ch _ _ (lst_ne vlvA) vlvA
            have vsnH := ch _ _ (lst_ne hsnA) hsnA
            have vcmH := ch _ _ (lst_ne hcmA) hcmA
            have vgnH := ch _ _ (lst_ne hgnA) hgnA
            have oHH := ch _ _ (nd_at ND 13 16) oHA
            have oLH := ch _ _ (nd_at ND 10 16) vLvA
            have oSH := ch _ _ (nd_at ND 7 16) oSA
            rw [← hGB] at hLA hCA
            have hLH : Sts K H6 ls' (L.filter fun k => !decide (k = n')) := hLA.imp iH
            have hCH : Sts K H6 csA CA := hCA.imp iH
            have dN : Dk K C H6 p0 dx0 hv0 lv' sn0 cm0 gn0 (j + 1) := ⟨h, q6, b, ys6, ls', zs, csA, (M.filter fun k => !decide (k = n')), (L.filter fun k => !decide (k = n')), Z, CA, gsA, m, hp6', hh.imp i3H, hhv.imp i3H, hq6, hM6, vlvH, hLH, vsnH, hZ.imp i3H, vcmH, hCH, vgnH,
              hbz, datN, zn, lenLB, by omega, lCA, lgA⟩
            have hB := (W3.d1.next.chg c6' nt (notin (nd_at ND 15 16) (nd_at ND 15 13) (nd_at ND 15 10) (nd_at ND 15 7) (nd_at ND 15 9) (nd_at ND 15 6) (nd_at ND 15 3)) (notin (nd_at ND 11 16) (nd_at ND 11 13) (nd_at ND 11 10) (nd_at ND 11 7) (nd_at ND 11 9) (nd_at ND 11 6) (nd_at ND 11 3))
              (notin (nd_at ND 8 16) (nd_at ND 8 13) (nd_at ND 8 10) (nd_at ND 8 7) (nd_at ND 8 9) (nd_at ND 8 6) (nd_at ND 8 3)) (notin (nd_at ND 5 16) (nd_at ND 5 13) (nd_at ND 5 10) (nd_at ND 5 7) (nd_at ND 5 9) (nd_at ND 5 6) (nd_at ND 5 3))
              (notin (nd_at ND 2 16) (nd_at ND 2 13) (nd_at ND 2 10) (nd_at ND 2 7) (nd_at ND 2 9) (nd_at ND 2 6) (nd_at ND 2 3)))
            have WN : Wd K C H6 cs l D Hd Lv Sn Cm Gn p0 p1 dx0 dx1 hv0 hv1 lv' lv1 sn0 sn1 cm0 cm1 gn0 gn1 (j + 1) := {
              nd := nd2
              ol := c6' _ _ (notin (nd_at ND 0 16) (nd_at ND 0 13) (nd_at ND 0 10) (nd_at ND 0 7) (nd_at ND 0 9) (nd_at ND 0 6) (nd_at ND 0 3)) W3.ol
              oD := c6' _ _ (notin (nd_at ND 14 16) (nd_at ND 14 13) (nd_at ND 14 10) (nd_at ND 14 7) (nd_at ND 14 9) (nd_at ND 14 6) (nd_at ND 14 3)) W3.oD
              oH := oHH
              oL := oLH
              oS := oSH
              oC := c6' _ _ (notin (nd_at ND 4 16) (nd_at ND 4 13) (nd_at ND 4 10) (nd_at ND 4 7) (nd_at ND 4 9) (nd_at ND 4 6) (nd_at ND 4 3)) W3.oC
              oG := c6' _ _ (notin (nd_at ND 1 16) (nd_at ND 1 13) (nd_at ND 1 10) (nd_at ND 1 7) (nd_at ND 1 9) (nd_at ND 1 6) (nd_at ND 1 3)) W3.oG
              d0 := dN
              d1 := hB }
            exact last_look WN j1 (fun σ' G' hσ s' => ⟨hσ, _, _, _, _, _, _, WN.same s'⟩)
        | gone v =>
          refine ⟨_, rfl, t, _, _, _, rfl, rfl, hD6, at0 rfl, rfl, _, rfl, ?_⟩
          rw [dec_str]
          refine iteF' (by decide +kernel) ?_
          refine ⟨_, rfl, t, _, _, _, rfl, rfl, hD6, at0 rfl, rfl, _, rfl, ?_⟩
          rw [dec_str]
          refine iteT' (by decide +kernel) ?_
          have ngL : gn0 ≠ Lv := (nd_at ND 3 10)
          have hgn6 := k6 ngL hgn
          refine ⟨_, rfl, _, rfl, Gn, _, _, _, rfl, rfl, SqL.of (k6 (nd_at ND 1 10) W3.oG), at0 rfl, .inl ⟨rfl, _, SqL.of hgn6⟩, _, rfl, t, _, _, _, rfl, rfl, hD6, at1 rfl, gn0, _, _, rfl, rfl, hgn6, Nat.lt_of_lt_of_le (show (gs.map V.int).length < 100 by rw [List.length_map]; omega) (by decide), ?_⟩
          obtain ⟨gsA, egs⟩ : ∃ gsA, gsA = gs ++ [v] := ⟨_, rfl⟩
          obtain ⟨GA, hGA⟩ : ∃ GA, GA = upd G6 gn0 (.lst (gsA.map V.int)) := ⟨_, rfl⟩
          rw [← (show GA = upd G6 gn0 (.lst (gs.map V.int ++ [.int v])) from by rw [hGA, egs, List.map_append]; rfl)]
          have cA : ChgS SS G3 GA := by rw [hGA]; exact c6.put (mem (by simp))
          have kA : ∀ {x : Addr} {o : HO}, x ≠ gn0 → G6 x = some o → GA x = some o := fun n e => by rw [hGA, upd_ne n]; exact e
          have i6A : ∀ a xs, SqT K G6 a xs → SqT K GA a xs := fun _ _ z => by rw [hGA]; exact sqt_chg ⟨_, hgn6⟩ Chg.self z
          have nlg : lv' ≠ gn0 := by
            rcases nl with e1 | e1
            · rw [e1]; exact (nd_at ND 12 3)
            · exact (ne_of_none (s4 _ _ hgn) e1).symm
          have neg : e ≠ gn0 := (ne_of_none hgn he).symm
          have vLvA := kA (nd_at ND 10 3) vLv; have vlvA := kA nlg vlv'; have hLA := hL6.imp i6A; have hDA := hD6.imp i6A; have oHA := kA (nd_at ND 13 3) (k6 (nd_at ND 13 10) W3.oH); have oSA := kA (nd_at ND 7 3) (k6 (nd_at ND 7 10) W3.oS); have veA := kA neg ve6
          have hpA := kA (nd_at ND 16 3) hp6; have hsnA := kA (nd_at ND 9 3) (k6 (nd_at ND 9 10) hsn); have hcmA := kA (nd_at ND 6 3) (k6 (nd_at ND 6 10) hcm)
          have hgnA : GA gn0 = some (.lst (gsA.map V.int)) := by rw [hGA]; exact upd_same
          obtain ⟨csA, ecs⟩ : ∃ csA, csA = cs2 := ⟨_, rfl⟩
          obtain ⟨CA, eCA⟩ : ∃ CA, CA = Cd := ⟨_, rfl⟩
          have hCA : Sts K GA cs2 Cd := hC.imp (fun _ _ z => sqt_chgS cA nt z)
          have datA := dat
          rw [← ecs] at hcmA
          rw [← ecs, ← eCA] at hCA
          rw [← eCA] at datA
          have lCA : CA.length ≤ j + 1 := by rw [eCA]; omega
          have lgA : gsA.length ≤ j + 1 := by rw [egs, List.length_append, List.length_singleton]; omega
          have iA : ∀ a xs, SqT K G3 a xs → SqT K GA a xs := fun _ _ z => sqt_chgS cA nt z
          refine ⟨_, rfl, _, rfl, Hd, _, _, _, rfl, rfl, SqL.of oHA, at0 rfl, _, rfl, _, t, _, _, rfl, hhv.imp iA, hDA, ?_⟩
          refine ⟨_, rfl, ?_⟩
          have lenLB : ((L.filter fun k => !decide (seatN k = v))).length ≤ j + 1 := Nat.le_trans (List.length_filter_le _ _) (by omega)
          have datF : ∀ k, m = some k → (fun k => !decide (seatN k = v)) k = true → Dat (L.filter fun k => !decide (seatN k = v)) (M.filter fun k => !decide (seatN k = v)) m CA := fun k e1 e2 => by
            have d2 := datA
            rw [e1] at d2 ⊢
            exact d2.keep (fun k => !decide (seatN k = v)) e2
          cases hf : freedB m (.gone v) with
          | true =>
            refine iteT ?_
            refine ⟨Nat.zero_le _, ?_⟩
            intro e2 he2
            have s7 := same_upd (o := .lst []) he2
            have c7 := cA.new (o := .lst []) he2
            refine ⟨_, rfl, _, rfl, Sn, _, _, _, rfl, rfl, s7 _ _ oSA, rfl, ?_⟩
            obtain ⟨G8, hG8⟩ : ∃ G8, G8 = upd (upd GA e2 (.lst [])) Sn (.lst (pr0 (.ref e2) (.ref sn1))) := ⟨_, rfl⟩
            rw [← (show G8 = upd (upd GA e2 (.lst [])) Sn (.lst (List.set [.ref sn0, .ref sn1] (Int.toNat 0) (.ref e2))) from hG8)]
            have c8 : ChgS SS G3 G8 := by rw [hG8]; exact c7.put (mem (by simp))
            have vSn8 : G8 Sn = some (.lst (pr0 (.ref e2) (.ref sn1))) := by rw [hG8]; exact upd_same
            have k8 : ∀ {x : Addr} {o : HO}, x ≠ Sn → GA x = some o → G8 x = some o := fun n e => by rw [hG8, upd_ne n]; exact s7 _ _ e
            have ne2 : e2 ≠ Sn := (ne_of_none oSA he2).symm
            have ve2 : G8 e2 = some (.lst []) := by rw [hG8, upd_ne ne2]; exact upd_same
            have oH8 := k8 (nd_at ND 13 7) oHA
            have vLv8 := k8 (nd_at ND 10 7) vLvA
            have nlS : lv' ≠ Sn := by
              rcases nl with e1 | e1
              · rw [e1]; exact (nd_at ND 12 7)
              · exact (ne_of_none (s4 _ _ W3.oS) e1).symm
            have vlv8 := k8 nlS vlvA
            have iA8 : ∀ a xs, SqT K GA a xs → SqT K G8 a xs := fun _ _ z => by rw [hG8]; exact sqt_chg ⟨_, s7 _ _ oSA⟩ Chg.self (sqt_same s7 z)
            have hL8 : Sts K G8 ls' (L.filter fun k => !decide (seatN k = v)) := hLA.imp iA8
            have i8 : ∀ a xs, SqT K G3 a xs → SqT K G8 a xs := fun _ _ z => sqt_chgS c8 nt z
            have nlH : lv' ≠ Hd := by
              rcases nl with e1 | e1
              · rw [e1]; exact (nd_at ND 12 13)
              · exact (ne_of_none (s4 _ _ W3.oH) e1).symm
            refine ⟨_, rfl, _, rfl, Lv, _, _, _, rfl, rfl, SqL.of vLv8, at0 rfl, lv', ls', (L.filter fun k => !decide (seatN k = v)), rfl, rfl, SqL.of vlv8, hL8, fun el => ?_, fun x nx hx hnx tx least => ?_⟩
            · skip
              refine ⟨_, rfl, _, rfl, Hd, _, _, _, rfl, rfl, oH8, rfl, ?_⟩
              obtain ⟨G9, hG9⟩ : ∃ G9, G9 = upd G8 Hd (.lst (pr0 V.non hv1)) := ⟨_, rfl⟩
              rw [← (show G9 = upd G8 Hd (.lst (List.set [hv0, hv1] (Int.toNat 0) V.non)) from hG9)]
              have c9 : ChgS SS G3 G9 := by rw [hG9]; exact c8.put (mem (by simp))
              have k9 : ∀ {x : Addr} {o : HO}, x ≠ Hd → G8 x = some o → G9 x = some o := fun n e => by rw [hG9, upd_ne n]; exact e
              have vHd9 : G9 Hd = some (.lst (pr0 V.non hv1)) := by rw [hG9]; exact upd_same
              have i89 : ∀ a xs, SqT K G8 a xs → SqT K G9 a xs := fun _ _ z => by rw [hG9]; exact sqt_chg ⟨_, oH8⟩ Chg.self z
              have ne2H : e2 ≠ Hd := fun z => by rw [z, s7 _ _ oHA |> fun _ => oHA] at he2; cases he2
              have vlv9 := k9 nlH vlv8
              have hL9 : Sts K G9 ls' (L.filter fun k => !decide (seatN k = v)) := hL8.imp i89
              refine ⟨_, rfl, _, rfl, Lv, _, _, _, rfl, rfl, SqL.of (k9 (nd_at ND 10 13) vLv8), at0 rfl, Nat.zero_le _, ?_⟩
              intro e3 he3
              have s10 := same_upd (o := .lst []) he3
              refine ⟨.list ((L.filter fun k => !decide (seatN k = v)).map stD), .list [], .lst (SqL.of (s10 _ _ vlv9)) (hL9.imp fun a zs z => sqt_same s10 z).dps, .lst (SqL.of upd_same) .nil, shaped_lsts _, by decide, _, rfl, ?_⟩
              rw [eqv_nil]
              refine iteF' (by simp [el]) ?_
              obtain ⟨GB, hGB⟩ : ∃ GB, GB = upd G9 e3 (.lst []) := ⟨_, rfl⟩
              have sB : Same G9 GB := by rw [hGB]; exact s10
              have cB : ChgS SS G3 GB := by rw [hGB]; exact c9.new he3
              have hpB : GB p0 = some (.ins C dx0 (deskF h (.ref qa) b)) := sB _ _ (k9 (nd_at ND 16 13) (k8 (nd_at ND 16 7) hpA))
              have neS : e ≠ Sn := ne_of_none W3.oS he |> Ne.symm
              have neH : e ≠ Hd := ne_of_none W3.oH he |> Ne.symm
              have veB : GB e = some (.lst []) := sB _ _ (k9 neH (k8 neS veA))
              rw [← hGB]
              have iB : ∀ a xs, SqT K G3 a xs → SqT K GB a xs := fun _ _ z => sqt_chgS cB nt z
              have hDB : DeedAt K GB t _ := hD.imp iB
              have oDB := cB _ _ (notin (nd_at ND 14 16) (nd_at ND 14 13) (nd_at ND 14 10) (nd_at ND 14 7) (nd_at ND 14 9) (nd_at ND 14 6) (nd_at ND 14 3)) W3.oD
              have hqB := iB _ _ hq
              have hMB : Sts K GB ys M := hM.imp iB
              have hhB : HeldV K GB h m := hh.imp iB
              have holdB : HoldM K GB h M m := by
                rcases hhB with ⟨e1, e2⟩ | z
                · refine .inl ⟨e1, ?_, e2⟩
                  have d2 := dat
                  rw [e2] at d2
                  exact d2.mnone
                · exact .inr z
              have lenM : M.length < 63 := by
                have := dat.pm.length_eq
                have l2 := List.length_filter_le (fun k => !decide (m = some k)) L
                omega
              refine ⟨_, rfl, _, rfl, D, _, _, _, rfl, rfl, SqL.of oDB, at0 rfl, _, rfl, p0, t, dx0, h, .ref qa, b, _, rfl, hpB, hDB, ?_⟩
              by_cases mn : m = none
              · refine ⟨p0, dx0, qa, h, b, ys, M, m, v, rfl, hpB, hqB, hMB, holdB, lenM, ?_⟩
                rw [if_neg (by rw [mn]; simp [isSeat])]
                intro l6 H6 hl6 ch out
                obtain ⟨hl6v, q6, ys6, hq6, hM6, hp6'⟩ := out
                have c6' : ChgS SS G3 H6 := cB.trans (Chg.s ch (mem (by simp)))
                have iH : ∀ a xs, SqT K GB a xs → SqT K H6 a xs := fun _ _ z => sqt_chgI hpB ch z
                have i3H : ∀ a xs, SqT K G3 a xs → SqT K H6 a xs := fun _ _ z => sqt_chgS c6' nt z
                have nEp : e ≠ p0 := ne_of veB hpB (by intro z; cases z)
                have vEH := ch _ _ nEp veB
                refine ⟨_, rfl, _, _, rfl, .inr ⟨l6, e, [], [], [], 2, rfl, rfl, hl6v, vEH, .nil, .nil, rfl, by decide, fun _ z => absurd z List.not_mem_nil⟩, ?_⟩
                refine ⟨_, rfl, iteF' rfl ?_⟩
                have e2SS : e2 ∉ SS := notin (ne_of_none hpA he2).symm (ne_of_none oHA he2).symm (ne_of_none vLvA he2).symm (ne_of_none oSA he2).symm (ne_of_none hsnA he2).symm (ne_of_none hcmA he2).symm (ne_of_none hgnA he2).symm
                have e23 : G3 e2 = none := cA.back he2 e2SS
                have e2lv : e2 ≠ lv' := (ne_of_none vlvA he2).symm
                have nd1 : [l, Gn, gn1, gn0, Cm, cm1, cm0, Sn, sn1, sn0, Lv, lv1, lv', Hd, D, p1, p0].Nodup := by
                  rcases nl with e1 | e1
                  · rw [e1]; exact ND
                  · exact nd_set 12 ND fun mm => all _ mm (by
                      cases z : G3 lv' with
                      | none => rfl
                      | some o => rw [s4 _ _ z] at e1; cases e1)
                have nd2 : [l, Gn, gn1, gn0, Cm, cm1, cm0, Sn, sn1, e2, Lv, lv1, lv', Hd, D, p1, p0].Nodup := nd_set 9 nd1 fun mm => by
                  have mm' : e2 ∈ [l, Gn, gn1, gn0, Cm, cm1, cm0, Sn, sn1, sn0, Lv, lv1, lv0, Hd, D, p1, p0].set 12 lv' := mm
                  rcases List.mem_or_eq_of_mem_set mm' with z | z
                  · exact all _ z e23
                  · exact e2lv z
                have lst_ne : ∀ {y : Addr} {zs : List V}, GB y = some (.lst zs) → y ≠ p0 := fun h => ne_of h hpB (by intro z; cases z)
                have vlvB := sB _ _ vlv9
                have vlvH := ch _ _ (lst_ne vlvB) vlvB
                have ve2B := sB _ _ (k9 ne2H ve2)
                have ve2H := ch _ _ (lst_ne ve2B) ve2B
                have vcmB := sB _ _ (k9 (nd_at ND 6 13) (k8 (nd_at ND 6 7) hcmA))
                have vcmH := ch _ _ (lst_ne vcmB) vcmB
                have vgnB := sB _ _ (k9 (nd_at ND 3 13) (k8 (nd_at ND 3 7) hgnA))
                have vgnH := ch _ _ (lst_ne vgnB) vgnB
                have oHH := ch _ _ (lst_ne (sB _ _ vHd9)) (sB _ _ vHd9)
                have oLH := ch _ _ (nd_at ND 10 16) (sB _ _ (k9 (nd_at ND 10 13) vLv8))
                have oSH := ch _ _ (nd_at ND 7 16) (sB _ _ (k9 (nd_at ND 7 13) vSn8))
                have hLH : Sts K H6 ls' (L.filter fun k => !decide (seatN k = v)) := hL9.imp fun a zs z => iH _ _ (sqt_same sB z)
                have hCH : Sts K H6 csA CA := hCA.imp fun a zs z => iH _ _ (sqt_same sB (i89 _ _ (iA8 _ _ z)))
                have datN : Dat (L.filter fun k => !decide (seatN k = v)) (M.filter fun k => !decide (seatN k = v)) m CA := by
                  have d2 := datA
                  rw [mn] at d2 ⊢
                  rw [d2.non rfl, d2.mnone]
                  exact Dat.empty
                have dN : Dk K C H6 p0 dx0 .non lv' e2 cm0 gn0 (j + 1) := ⟨h, q6, b, ys6, ls', [], csA, (M.filter fun k => !decide (seatN k = v)), (L.filter fun k => !decide (seatN k = v)), [], CA, gsA, m, hp6', hh.imp i3H, .inl ⟨rfl, mn⟩, hq6, hM6, vlvH, hLH, ve2H, .nil, vcmH, hCH, vgnH,
                  (by rw [hbz, zn mn]), datN, fun _ => rfl, lenLB, Nat.zero_le _, lCA, lgA⟩
                have hB := (W3.d1.next.chg c6' nt (notin (nd_at ND 15 16) (nd_at ND 15 13) (nd_at ND 15 10) (nd_at ND 15 7) (nd_at ND 15 9) (nd_at ND 15 6) (nd_at ND 15 3)) (notin (nd_at ND 11 16) (nd_at ND 11 13) (nd_at ND 11 10) (nd_at ND 11 7) (nd_at ND 11 9) (nd_at ND 11 6) (nd_at ND 11 3))
                  (notin (nd_at ND 8 16) (nd_at ND 8 13) (nd_at ND 8 10) (nd_at ND 8 7) (nd_at ND 8 9) (nd_at ND 8 6) (nd_at ND 8 3)) (notin (nd_at ND 5 16) (nd_at ND 5 13) (nd_at ND 5 10) (nd_at ND 5 7) (nd_at ND 5 9) (nd_at ND 5 6) (nd_at ND 5 3))
                  (notin (nd_at ND 2 16) (nd_at ND 2 13) (nd_at ND 2 10) (nd_at ND 2 7) (nd_at ND 2 9) (nd_at ND 2 6) (nd_at ND 2 3)))
                have WN : Wd K C H6 cs l D Hd Lv Sn Cm Gn p0 p1 dx0 dx1 _ hv1 lv' lv1 e2 sn1 cm0 cm1 gn0 gn1 (j + 1) := {
                  nd := nd2
                  ol := c6' _ _ (notin (nd_at ND 0 16) (nd_at ND 0 13) (nd_at ND 0 10) (nd_at ND 0 7) (nd_at ND 0 9) (nd_at ND 0 6) (nd_at ND 0 3)) W3.ol
                  oD := c6' _ _ (notin (nd_at ND 14 16) (nd_at ND 14 13) (nd_at ND 14 10) (nd_at ND 14 7) (nd_at ND 14 9) (nd_at ND 14 6) (nd_at ND 14 3)) W3.oD
                  oH := oHH
                  oL := oLH
                  oS := oSH
                  oC := c6' _ _ (notin (nd_at ND 4 16) (nd_at ND 4 13) (nd_at ND 4 10) (nd_at ND 4 7) (nd_at ND 4 9) (nd_at ND 4 6) (nd_at ND 4 3)) W3.oC
                  oG := c6' _ _ (notin (nd_at ND 1 16) (nd_at ND 1 13) (nd_at ND 1 10) (nd_at ND 1 7) (nd_at ND 1 9) (nd_at ND 1 6) (nd_at ND 1 3)) W3.oG
                  d0 := dN
                  d1 := hB }
                exact last_look WN j1 (fun σ' G' hσ s' => ⟨hσ, _, _, _, _, _, _, WN.same s'⟩)
              · have pos := gone_pos hf mn
                refine ⟨p0, dx0, qa, h, b, ys, M, m, v, rfl, hpB, hqB, hMB, holdB, lenM, ?_⟩
                rw [if_pos pos]
                intro l6 H6 hl6 ch out
                have pL := gone_perm datA pos
                rw [el] at pL
                have eM := List.Perm.eq_nil pL
                rw [eM] at out
                rcases out with ⟨_, hl6v, q6, hq6, hp6'⟩ | ⟨_, _, _, _, _, _, z, _⟩
                · skip
                  have c6' : ChgS SS G3 H6 := cB.trans (Chg.s ch (mem (by simp)))
                  have iH : ∀ a xs, SqT K GB a xs → SqT K H6 a xs := fun _ _ z => sqt_chgI hpB ch z
                  have i3H : ∀ a xs, SqT K G3 a xs → SqT K H6 a xs := fun _ _ z => sqt_chgS c6' nt z
                  have nEp : e ≠ p0 := ne_of veB hpB (by intro z; cases z)
                  have vEH := ch _ _ nEp veB
                  refine ⟨_, rfl, _, _, rfl, .inr ⟨l6, e, [], [], [], 2, rfl, rfl, hl6v, vEH, .nil, .nil, rfl, by decide, fun _ z => absurd z List.not_mem_nil⟩, ?_⟩
                  refine ⟨_, rfl, iteF' rfl ?_⟩
                  have e2SS : e2 ∉ SS := notin (ne_of_none hpA he2).symm (ne_of_none oHA he2).symm (ne_of_none vLvA he2).symm (ne_of_none oSA he2).symm (ne_of_none hsnA he2).symm (ne_of_none hcmA he2).symm (ne_of_none hgnA he2).symm
                  have e23 : G3 e2 = none := cA.back he2 e2SS
                  have e2lv : e2 ≠ lv' := (ne_of_none vlvA he2).symm
                  have nd1 : [l, Gn, gn1, gn0, Cm, cm1, cm0, Sn, sn1, sn0, Lv, lv1, lv', Hd, D, p1, p0].Nodup := by
                    rcases nl with e1 | e1
                    · rw [e1]; exact ND
                    · exact nd_set 12 ND fun mm => all _ mm (by
                        cases z : G3 lv' with
                        | none => rfl
                        | some o => rw [s4 _ _ z] at e1; cases e1)
                  have nd2 : [l, Gn, gn1, gn0, Cm, cm1, cm0, Sn, sn1, e2, Lv, lv1, lv', Hd, D, p1, p0].Nodup := nd_set 9 nd1 fun mm => by
                    have mm' : e2 ∈ [l, Gn, gn1, gn0, Cm, cm1, cm0, Sn, sn1, sn0, Lv, lv1, lv0, Hd, D, p1, p0].set 12 lv' := mm
                    rcases List.mem_or_eq_of_mem_set mm' with z | z
                    · exact all _ z e23
                    · exact e2lv z
                  have lst_ne : ∀ {y : Addr} {zs : List V}, GB y = some (.lst zs) → y ≠ p0 := fun h => ne_of h hpB (by intro z; cases z)
                  have vlvB := sB _ _ vlv9
                  have vlvH := ch _ _ (lst_ne vlvB) vlvB
                  have ve2B := sB _ _ (k9 ne2H ve2)
                  have ve2H := ch _ _ (lst_ne ve2B) ve2B
                  have vcmB := sB _ _ (k9 (nd_at ND 6 13) (k8 (nd_at ND 6 7) hcmA))
                  have vcmH := ch _ _ (lst_ne vcmB) vcmB
                  have vgnB := sB _ _ (k9 (nd_at ND 3 13) (k8 (nd_at ND 3 7) hgnA))
                  have vgnH := ch _ _ (lst_ne vgnB) vgnB
                  have oHH := ch _ _ (lst_ne (sB _ _ vHd9)) (sB _ _ vHd9)
                  have oLH := ch _ _ (nd_at ND 10 16) (sB _ _ (k9 (nd_at ND 10 13) vLv8))
                  have oSH := ch _ _ (nd_at ND 7 16) (sB _ _ (k9 (nd_at ND 7 13) vSn8))
                  have hLH : Sts K H6 ls' (L.filter fun k => !decide (seatN k = v)) := hL9.imp fun a zs z => iH _ _ (sqt_same sB z)
                  have hCH : Sts K H6 csA CA := hCA.imp fun a zs z => iH _ _ (sqt_same sB (i89 _ _ (iA8 _ _ z)))
                  have datN : Dat (L.filter fun k => !decide (seatN k = v)) [] none CA := by rw [el]; exact Dat.empty
                  have dN : Dk K C H6 p0 dx0 .non lv' e2 cm0 gn0 (j + 1) := ⟨.non, q6, false, [], ls', [], csA, [], (L.filter fun k => !decide (seatN k = v)), [], CA, gsA, none, hp6', .inl ⟨rfl, rfl⟩, .inl ⟨rfl, rfl⟩, hq6, .nil, vlvH, hLH, ve2H, .nil, vcmH, hCH, vgnH,
                    (by simp), datN, fun _ => rfl, lenLB, Nat.zero_le _, lCA, lgA⟩
                  have hB := (W3.d1.next.chg c6' nt (notin (nd_at ND 15 16) (nd_at ND 15 13) (nd_at ND 15 10) (nd_at ND 15 7) (nd_at ND 15 9) (nd_at ND 15 6) (nd_at ND 15 3)) (notin (nd_at ND 11 16) (nd_at ND 11 13) (nd_at ND 11 10) (nd_at ND 11 7) (nd_at ND 11 9) (nd_at ND 11 6) (nd_at ND 11 3))
                    (notin (nd_at ND 8 16) (nd_at ND 8 13) (nd_at ND 8 10) (nd_at ND 8 7) (nd_at ND 8 9) (nd_at ND 8 6) (nd_at ND 8 3)) (notin (nd_at ND 5 16) (nd_at ND 5 13) (nd_at ND 5 10) (nd_at ND 5 7) (nd_at ND 5 9) (nd_at ND 5 6) (nd_at ND 5 3))
                    (notin (nd_at ND 2 16) (nd_at ND 2 13) (nd_at ND 2 10) (nd_at ND 2 7) (nd_at ND 2 9) (nd_at ND 2 6) (nd_at ND 2 3)))
                  have WN : Wd K C H6 cs l D Hd Lv Sn Cm Gn p0 p1 dx0 dx1 _ hv1 lv' lv1 e2 sn1 cm0 cm1 gn0 gn1 (j + 1) := {
                    nd := nd2
                    ol := c6' _ _ (notin (nd_at ND 0 16) (nd_at ND 0 13) (nd_at ND 0 10) (nd_at ND 0 7) (nd_at ND 0 9) (nd_at ND 0 6) (nd_at ND 0 3)) W3.ol
                    oD := c6' _ _ (notin (nd_at ND 14 16) (nd_at ND 14 13) (nd_at ND 14 10) (nd_at ND 14 7) (nd_at ND 14 9) (nd_at ND 14 6) (nd_at ND 14 3)) W3.oD
                    oH := oHH
                    oL := oLH
                    oS := oSH
                    oC := c6' _ _ (notin (nd_at ND 4 16) (nd_at ND 4 13) (nd_at ND 4 10) (nd_at ND 4 7) (nd_at ND 4 9) (nd_at ND 4 6) (nd_at ND 4 3)) W3.oC
                    oG := c6' _ _ (notin (nd_at ND 1 16) (nd_at ND 1 13) (nd_at ND 1 10) (nd_at ND 1 7) (nd_at ND 1 9) (nd_at ND 1 6) (nd_at ND 1 3)) W3.oG
                    d0 := dN
                    d1 := hB }
                  exact last_look WN j1 (fun σ' G' hσ s' => ⟨hσ, _, _, _, _, _, _, WN.same s'⟩)
                · cases z
            · skip
              refine ⟨_, rfl, _, rfl, Hd, _, _, _, rfl, rfl, oH8, rfl, ?_⟩
              obtain ⟨G9, hG9⟩ : ∃ G9, G9 = upd G8 Hd (.lst (pr0 x hv1)) := ⟨_, rfl⟩
              rw [← (show G9 = upd G8 Hd (.lst (List.set [hv0, hv1] (Int.toNat 0) x)) from hG9)]
              have c9 : ChgS SS G3 G9 := by rw [hG9]; exact c8.put (mem (by simp))
              have k9 : ∀ {x : Addr} {o : HO}, x ≠ Hd → G8 x = some o → G9 x = some o := fun n e => by rw [hG9, upd_ne n]; exact e
              have vHd9 : G9 Hd = some (.lst (pr0 x hv1)) := by rw [hG9]; exact upd_same
              have i89 : ∀ a xs, SqT K G8 a xs → SqT K G9 a xs := fun _ _ z => by rw [hG9]; exact sqt_chg ⟨_, oH8⟩ Chg.self z
              have ne2H : e2 ≠ Hd := fun z => by rw [z, s7 _ _ oHA |> fun _ => oHA] at he2; cases he2
              have vlv9 := k9 nlH vlv8
              have hL9 : Sts K G9 ls' (L.filter fun k => !decide (seatN k = v)) := hL8.imp i89
              refine ⟨_, rfl, _, rfl, Lv, _, _, _, rfl, rfl, SqL.of (k9 (nd_at ND 10 13) vLv8), at0 rfl, Nat.zero_le _, ?_⟩
              intro e3 he3
              have s10 := same_upd (o := .lst []) he3
              refine ⟨.list ((L.filter fun k => !decide (seatN k = v)).map stD), .list [], .lst (SqL.of (s10 _ _ vlv9)) (hL9.imp fun a zs z => sqt_same s10 z).dps, .lst (SqL.of upd_same) .nil, shaped_lsts _, by decide, _, rfl, ?_⟩
              rw [eqv_nil]
              have mn : m ≠ none := fun hm => by
                have := dat.non hm
                rw [this] at hnx
                exact absurd hnx List.not_mem_nil
              have pos := gone_pos hf mn
              obtain ⟨tx', ex', zx'⟩ := id tx
              subst ex'
              refine iteT' (by rw [decide_eq_false (fun z => by rw [z] at hnx; exact List.not_mem_nil hnx)]; rfl) ?_
              refine ⟨_, rfl, _, rfl, Hd, _, _, _, rfl, rfl, SqL.of (s10 _ _ vHd9), at0 rfl, by show 2 ≤ sizeLine; decide, ?_⟩
              intro t2 ht2
              refine ⟨by show 1 ≤ sizeLine; decide, ?_⟩
              intro E2 hE2
              have s11 := s10.trans (same_upd (o := .tup [.str "vote", .ref tx']) ht2)
              have s12 := s11.trans (same_upd (o := .lst [.ref t2]) hE2)
              obtain ⟨GB, hGB⟩ : ∃ GB, GB = upd (upd (upd G9 e3 (.lst [])) t2 (.tup [.str "vote", .ref tx'])) E2 (.lst [.ref t2]) := ⟨_, rfl⟩
              have sB : Same G9 GB := by rw [hGB]; exact s12
              have vt2 : GB t2 = some (.tup [.str "vote", .ref tx']) := by rw [hGB]; exact same_upd hE2 _ _ upd_same
              have vE2 : GB E2 = some (.lst [.ref t2]) := by rw [hGB]; exact upd_same
              have cB : ChgS SS G3 GB := c9.trans (Same.s sB)
              have hpB : GB p0 = some (.ins C dx0 (deskF h (.ref qa) b)) := sB _ _ (k9 (nd_at ND 16 13) (k8 (nd_at ND 16 7) hpA))
              rw [← hGB]
              have snx : StN nx := hL8.st nx hnx
              have hxB : TupI K GB (.ref tx') nx := ⟨tx', rfl, sqt_same sB (i89 _ _ zx')⟩
              have iB : ∀ a xs, SqT K G3 a xs → SqT K GB a xs := fun _ _ z => sqt_chgS cB nt z
              have hDB : DeedAt K GB t _ := hD.imp iB
              have oDB := cB _ _ (notin (nd_at ND 14 16) (nd_at ND 14 13) (nd_at ND 14 10) (nd_at ND 14 7) (nd_at ND 14 9) (nd_at ND 14 6) (nd_at ND 14 3)) W3.oD
              have hqB := iB _ _ hq
              have hMB : Sts K GB ys M := hM.imp iB
              have hhB : HeldV K GB h m := hh.imp iB
              have holdB : HoldM K GB h M m := by
                rcases hhB with ⟨e1, e2⟩ | z
                · refine .inl ⟨e1, ?_, e2⟩
                  have d2 := dat
                  rw [e2] at d2
                  exact d2.mnone
                · exact .inr z
              have lenM : M.length < 63 := by
                have := dat.pm.length_eq
                have l2 := List.length_filter_le (fun k => !decide (m = some k)) L
                omega
              refine ⟨_, rfl, _, rfl, D, _, _, _, rfl, rfl, SqL.of oDB, at0 rfl, _, rfl, p0, t, dx0, h, .ref qa, b, _, rfl, hpB, hDB, ?_⟩
              refine ⟨p0, dx0, qa, h, b, ys, M, m, v, rfl, hpB, hqB, hMB, holdB, lenM, ?_⟩
              rw [if_pos pos]
              intro l6 H6 hl6 ch out
              have pL := gone_perm datA pos
              have upM1 := up_filter datA.up (fun k => !decide (seatN k = v))
              have ndL : ((L.filter fun k => !decide (seatN k = v))).Nodup := datA.nd.filter _
              have subL : ∀ k ∈ (L.filter fun k => !decide (seatN k = v)), k ∈ CA := fun k hk => datA.sub k (List.mem_filter.mp hk).1
              rcases out with ⟨z, _⟩ | ⟨t6, x6, nx6, r6, M6, q6, eM1, hl6v, ht6, hx6, sx6, hq6, hM6, hp6'⟩
              · rw [z] at pL
                rw [List.Perm.eq_nil pL.symm] at hnx
                exact absurd hnx List.not_mem_nil
              rw [eM1] at pL upM1
              have enx := min_first pL upM1 (fun k hk => hL8.st k hk) hnx least
              subst enx
              have c6' : ChgS SS G3 H6 := cB.trans (Chg.s ch (mem (by simp)))
              have iH : ∀ a xs, SqT K GB a xs → SqT K H6 a xs := fun _ _ z => sqt_chgI hpB ch z
              have i3H : ∀ a xs, SqT K G3 a xs → SqT K H6 a xs := fun _ _ z => sqt_chgS c6' nt z
              have nEp : E2 ≠ p0 := ne_of vE2 hpB (by intro z; cases z)
              have vEH := ch _ _ nEp vE2
              have hxH : TupI K H6 (.ref tx') nx6 := by obtain ⟨_, e1, z⟩ := hxB; exact ⟨_, e1, iH _ _ z⟩
              refine ⟨_, rfl, _, _, rfl, .inr ⟨l6, E2, [.ref t6], [.ref t2], _, 2, rfl, rfl, hl6v, vEH, dp_due ht6 hx6, dp_due (iH _ _ (SqT.of vt2)) hxH, rfl, by show 1 < 10000; decide, lv_due _ (by rw [sx6.1]; decide)⟩, ?_⟩
              refine ⟨_, rfl, iteF' rfl ?_⟩
              have e2SS : e2 ∉ SS := notin (ne_of_none hpA he2).symm (ne_of_none oHA he2).symm (ne_of_none vLvA he2).symm (ne_of_none oSA he2).symm (ne_of_none hsnA he2).symm (ne_of_none hcmA he2).symm (ne_of_none hgnA he2).symm
              have e23 : G3 e2 = none := cA.back he2 e2SS
              have e2lv : e2 ≠ lv' := (ne_of_none vlvA he2).symm
              have nd1 : [l, Gn, gn1, gn0, Cm, cm1, cm0, Sn, sn1, sn0, Lv, lv1, lv', Hd, D, p1, p0].Nodup := by
                rcases nl with e1 | e1
                · rw [e1]; exact ND
                · exact nd_set 12 ND fun mm => all _ mm (by
                    cases z : G3 lv' with
                    | none => rfl
                    | some o => rw [s4 _ _ z] at e1; cases e1)
              have nd2 : [l, Gn, gn1, gn0, Cm, cm1, cm0, Sn, sn1, e2, Lv, lv1, lv', Hd, D, p1, p0].Nodup := nd_set 9 nd1 fun mm => by
                have mm' : e2 ∈ [l, Gn, gn1, gn0, Cm, cm1, cm0, Sn, sn1, sn0, Lv, lv1, lv0, Hd, D, p1, p0].set 12 lv' := mm
                rcases List.mem_or_eq_of_mem_set mm' with z | z
                · exact all _ z e23
                · exact e2lv z
              have lst_ne : ∀ {y : Addr} {zs : List V}, GB y = some (.lst zs) → y ≠ p0 := fun h => ne_of h hpB (by intro z; cases z)
              have vlvB := sB _ _ vlv9
              have vlvH := ch _ _ (lst_ne vlvB) vlvB
              have ve2B := sB _ _ (k9 ne2H ve2)
              have ve2H := ch _ _ (lst_ne ve2B) ve2B
              have vcmB := sB _ _ (k9 (nd_at ND 6 13) (k8 (nd_at ND 6 7) hcmA))
              have vcmH := ch _ _ (lst_ne vcmB) vcmB
              have vgnB := sB _ _ (k9 (nd_at ND 3 13) (k8 (nd_at ND 3 7) hgnA))
              have vgnH := ch _ _ (lst_ne vgnB) vgnB
              have oHH := ch _ _ (lst_ne (sB _ _ vHd9)) (sB _ _ vHd9)
              have oLH := ch _ _ (nd_at ND 10 16) (sB _ _ (k9 (nd_at ND 10 13) vLv8))
              have oSH := ch _ _ (nd_at ND 7 16) (sB _ _ (k9 (nd_at ND 7 13) vSn8))
              have hLH : Sts K H6 ls' (L.filter fun k => !decide (seatN k = v)) := hL9.imp fun a zs z => iH _ _ (sqt_same sB z)
              have hCH : Sts K H6 csA CA := hCA.imp fun a zs z => iH _ _ (sqt_same sB (i89 _ _ (iA8 _ _ z)))
              have dN : Dk K C H6 p0 dx0 (.ref tx') lv' e2 cm0 gn0 (j + 1) := ⟨.ref x6, q6, false, r6, ls', [], csA, M6, (L.filter fun k => !decide (seatN k = v)), [], CA, gsA, some nx6, hp6', .inr ⟨x6, nx6, rfl, hx6, sx6, rfl⟩, .inr ⟨tx', nx6, rfl, hxH, sx6, rfl⟩, hq6, hM6, vlvH, hLH, ve2H, .nil, vcmH, hCH, vgnH,
                (by simp), Dat.first ndL pL upM1 subL, (fun z => by cases z), lenLB, Nat.zero_le _, lCA, lgA⟩
              have hB := (W3.d1.next.chg c6' nt (notin (nd_at ND 15 16) (nd_at ND 15 13) (nd_at ND 15 10) (nd_at ND 15 7) (nd_at ND 15 9) (nd_at ND 15 6) (nd_at ND 15 3)) (notin (nd_at ND 11 16) (nd_at ND 11 13) (nd_at ND 11 10) (nd_at ND 11 7) (nd_at ND 11 9) (nd_at ND 11 6) (nd_at ND 11 3))
                (notin (nd_at ND 8 16) (nd_at ND 8 13) (nd_at ND 8 10) (nd_at ND 8 7) (nd_at ND 8 9) (nd_at ND 8 6) (nd_at ND 8 3)) (notin (nd_at ND 5 16) (nd_at ND 5 13) (nd_at ND 5 10) (nd_at ND 5 7) (nd_at ND 5 9) (nd_at ND 5 6) (nd_at ND 5 3))
                (notin (nd_at ND 2 16) (nd_at ND 2 13) (nd_at ND 2 10) (nd_at ND 2 7) (nd_at ND 2 9) (nd_at ND 2 6) (nd_at ND 2 3)))
              have WN : Wd K C H6 cs l D Hd Lv Sn Cm Gn p0 p1 dx0 dx1 _ hv1 lv' lv1 e2 sn1 cm0 cm1 gn0 gn1 (j + 1) := {
                nd := nd2
                ol := c6' _ _ (notin (nd_at ND 0 16) (nd_at ND 0 13) (nd_at ND 0 10) (nd_at ND 0 7) (nd_at ND 0 9) (nd_at ND 0 6) (nd_at ND 0 3)) W3.ol
                oD := c6' _ _ (notin (nd_at ND 14 16) (nd_at ND 14 13) (nd_at ND 14 10) (nd_at ND 14 7) (nd_at ND 14 9) (nd_at ND 14 6) (nd_at ND 14 3)) W3.oD
                oH := oHH
                oL := oLH
                oS := oSH
                oC := c6' _ _ (notin (nd_at ND 4 16) (nd_at ND 4 13) (nd_at ND 4 10) (nd_at ND 4 7) (nd_at ND 4 9) (nd_at ND 4 6) (nd_at ND 4 3)) W3.oC
                oG := c6' _ _ (notin (nd_at ND 1 16) (nd_at ND 1 13) (nd_at ND 1 10) (nd_at ND 1 7) (nd_at ND 1 9) (nd_at ND 1 6) (nd_at ND 1 3)) W3.oG
                d0 := dN
                d1 := hB }
              exact last_look WN j1 (fun σ' G' hσ s' => ⟨hσ, _, _, _, _, _, _, WN.same s'⟩)
          | false =>
            skip
            refine iteF ?_
            refine ⟨_, rfl, t, _, _, _, rfl, rfl, hDA, at0 rfl, rfl, _, rfl, ?_⟩
            rw [dec_str]
            refine iteF' (by decide +kernel) ?_
            obtain ⟨GB, hGB⟩ : ∃ GB, GB = GA := ⟨_, rfl⟩
            have cB := cA; have hpB := hpA; have veB := veA
            rw [← hGB] at cB hpB veB
            rw [← hGB]
            have iB : ∀ a xs, SqT K G3 a xs → SqT K GB a xs := fun _ _ z => sqt_chgS cB nt z
            have hDB : DeedAt K GB t _ := hD.imp iB
            have oDB := cB _ _ (notin (nd_at ND 14 16) (nd_at ND 14 13) (nd_at ND 14 10) (nd_at ND 14 7) (nd_at ND 14 9) (nd_at ND 14 6) (nd_at ND 14 3)) W3.oD
            have hqB := iB _ _ hq
            have hMB : Sts K GB ys M := hM.imp iB
            have hhB : HeldV K GB h m := hh.imp iB
            have holdB : HoldM K GB h M m := by
              rcases hhB with ⟨e1, e2⟩ | z
              · refine .inl ⟨e1, ?_, e2⟩
                have d2 := dat
                rw [e2] at d2
                exact d2.mnone
              · exact .inr z
            have lenM : M.length < 63 := by
              have := dat.pm.length_eq
              have l2 := List.length_filter_le (fun k => !decide (m = some k)) L
              omega
            refine ⟨_, rfl, _, rfl, D, _, _, _, rfl, rfl, SqL.of oDB, at0 rfl, _, rfl, p0, t, dx0, h, .ref qa, b, _, rfl, hpB, hDB, ?_⟩
            obtain ⟨k, hk, gk, neg⟩ := gone_neg hf
            refine ⟨p0, dx0, qa, h, b, ys, M, m, v, rfl, hpB, hqB, hMB, holdB, lenM, ?_⟩
            rw [if_neg neg]
            intro l6 H6 hl6 ch out
            obtain ⟨hl6v, q6, ys6, hq6, hM6, hp6'⟩ := out
            have datN := datF k hk gk
            have c6' : ChgS SS G3 H6 := cB.trans (Chg.s ch (mem (by simp)))
            have iH : ∀ a xs, SqT K GB a xs → SqT K H6 a xs := fun _ _ z => sqt_chgI hpB ch z
            have i3H : ∀ a xs, SqT K G3 a xs → SqT K H6 a xs := fun _ _ z => sqt_chgS c6' nt z
            have nEp : e ≠ p0 := ne_of veB hpB (by intro z; cases z)
            have vEH := ch _ _ nEp veB
            refine ⟨_, rfl, _, _, rfl, .inr ⟨l6, e, [], [], [], 2, rfl, rfl, hl6v, vEH, .nil, .nil, rfl, by decide, fun _ z => absurd z List.not_mem_nil⟩, ?_⟩
            refine ⟨_, rfl, iteF' rfl ?_⟩
            have nd1 : [l, Gn, gn1, gn0, Cm, cm1, cm0, Sn, sn1, sn0, Lv, lv1, lv', Hd, D, p1, p0].Nodup := by
              rcases nl with e1 | e1
              · rw [e1]; exact ND
              · exact nd_set 12 ND fun mm => all _ mm (by
                  cases z : G3 lv' with
                  | none => rfl
                  | some o => rw [s4 _ _ z] at e1; cases e1)
            have nd2 := nd1
            have lst_ne : ∀ {y : Addr} {zs : List V}, GB y = some (.lst zs) → y ≠ p0 := fun h => ne_of h hpB (by intro z; cases z)
            rw [← hGB] at vlvA hsnA hcmA hgnA oHA oSA vLvA
            have vlvH := ch _ _ (lst_ne vlvA) vlvA
            have vsnH := ch _ _ (lst_ne hsnA) hsnA
            have vcmH := ch _ _ (lst_ne hcmA) hcmA
            have vgnH := ch _ _ (lst_ne hgnA) hgnA
            have oHH := ch _ _ (nd_at ND 13 16) oHA
            have oLH := ch _ _ (nd_at ND 10 16) vLvA
            have oSH := ch _ _ (nd_at ND 7 16) oSA
            rw [← hGB] at hLA hCA
            have hLH : Sts K H6 ls' (L.filter fun k => !decide (seatN k = v)) := hLA.imp iH
            have hCH : Sts K H6 csA CA := hCA.imp iH
            have dN : Dk K C H6 p0 dx0 hv0 lv' sn0 cm0 gn0 (j + 1) := ⟨h, q6, b, ys6, ls', zs, csA, (M.filter fun k => !decide (seatN k = v)), (L.filter fun k => !decide (seatN k = v)), Z, CA, gsA, m, hp6', hh.imp i3H, hhv.imp i3H, hq6, hM6, vlvH, hLH, vsnH, hZ.imp i3H, vcmH, hCH, vgnH,
              hbz, datN, zn, lenLB, by omega, lCA, lgA⟩
            have hB := (W3.d1.next.chg c6' nt (notin (nd_at ND 15 16) (nd_at ND 15 13) (nd_at ND 15 10) (nd_at ND 15 7) (nd_at ND 15 9) (nd_at ND 15 6) (nd_at ND 15 3)) (notin (nd_at ND 11 16) (nd_at ND 11 13) (nd_at ND 11 10) (nd_at ND 11 7) (nd_at ND 11 9) (nd_at ND 11 6) (nd_at ND 11 3))
              (notin (nd_at ND 8 16) (nd_at ND 8 13) (nd_at ND 8 10) (nd_at ND 8 7) (nd_at ND 8 9) (nd_at ND 8 6) (nd_at ND 8 3)) (notin (nd_at ND 5 16) (nd_at ND 5 13) (nd_at ND 5 10) (nd_at ND 5 7) (nd_at ND 5 9) (nd_at ND 5 6) (nd_at ND 5 3))
              (notin (nd_at ND 2 16) (nd_at ND 2 13) (nd_at ND 2 10) (nd_at ND 2 7) (nd_at ND 2 9) (nd_at ND 2 6) (nd_at ND 2 3)))
            have WN : Wd K C H6 cs l D Hd Lv Sn Cm Gn p0 p1 dx0 dx1 hv0 hv1 lv' lv1 sn0 sn1 cm0 cm1 gn0 gn1 (j + 1) := {
              nd := nd2
              ol := c6' _ _ (notin (nd_at ND 0 16) (nd_at ND 0 13) (nd_at ND 0 10) (nd_at ND 0 7) (nd_at ND 0 9) (nd_at ND 0 6) (nd_at ND 0 3)) W3.ol
              oD := c6' _ _ (notin (nd_at ND 14 16) (nd_at ND 14 13) (nd_at ND 14 10) (nd_at ND 14 7) (nd_at ND 14 9) (nd_at ND 14 6) (nd_at ND 14 3)) W3.oD
              oH := oHH
              oL := oLH
              oS := oSH
              oC := c6' _ _ (notin (nd_at ND 4 16) (nd_at ND 4 13) (nd_at ND 4 10) (nd_at ND 4 7) (nd_at ND 4 9) (nd_at ND 4 6) (nd_at ND 4 3)) W3.oC
              oG := c6' _ _ (notin (nd_at ND 1 16) (nd_at ND 1 13) (nd_at ND 1 10) (nd_at ND 1 7) (nd_at ND 1 9) (nd_at ND 1 6) (nd_at ND 1 3)) W3.oG
              d0 := dN
              d1 := hB }
            exact last_look WN j1 (fun σ' G' hσ s' => ⟨hσ, _, _, _, _, _, _, WN.same s'⟩)
      · exact last_look W3.next j1 (fun σ' G' hσ s' => ⟨hσ, _, _, _, _, _, _, W3.next.same s'⟩)
    · skip
      have W1 : Wd K C G1 cs l D Hd Lv Sn Cm Gn p0 p1 dx0 dx1 hv0 hv1 lv0 lv1 sn0 sn1 cm0 cm1 gn0 gn1 j := W1
      have ND := W1.nd
      refine ⟨_, rfl, _, rfl, _, rfl, _, rfl, Hd, _, _, _, rfl, rfl, SqL.of (rG W1.oH), at1 rfl, _, rfl, _, rfl, Lv, _, _, _, rfl, rfl, SqL.of (rG W1.oL), at1 rfl, _, rfl, _, rfl, _, rfl, _, rfl, low, many, seat, turn, rfl, a3, b3, a4, b4, a5, b5, a6, b6, fun fr G2 n hfr s2 hfr2 sn => ?_⟩
      have sG2 : Same G1 G2 := fun b o e => s2 b o (rG e)
      have W2 := W1.same sG2
      obtain ⟨h, qa, b, ys, ls, zs, cs2, M, L, Z, Cd, gs, m, hp, hh, hhv, hq, hM, hlv, hL, hsn, hZ, hcm, hC, hgn, hbz, dat, zn, lenL, lenZ, lenC, lenG⟩ := W2.d1.ex
      have st : ∀ k ∈ L, StN k := fun k hk => hL.st k hk
      refine ⟨way, pick, hv1, lv1, fr, ls, L, m, n, rfl, a2, hlv, hL, hhv, fun ne z => ne (dat.non z), ⟨fr, rfl, SqT.of hfr2⟩, sn, fun t G3 Dd ht s3 hD => ?_⟩
      have W3 := W2.same s3
      have j1 : j + 1 < 64 := by omega
      obtain ⟨h, qa, b, ys, ls, zs, cs2, M, L, Z, Cd, gs, m, hp, hh, hhv, hq, hM, hlv, hL, hsn, hZ, hcm, hC, hgn, hbz, dat, zn, lenL, lenZ, lenC, lenG⟩ := W3.d1.ex
      refine ⟨_, rfl, _, rfl, _, rfl, Cm, _, _, _, rfl, rfl, SqL.of W3.oC, at1 rfl, _, rfl, _, rfl, Gn, _, _, _, rfl, rfl, SqL.of W3.oG, at1 rfl, t, cm1, gn1, Dd, cs2, Cd, gs, rfl, hD, hcm, hC, hgn, fun bb hbb => ?_⟩
      refine ⟨_, rfl, ?_⟩
      refine ite2 (fun cb => ?_) (fun cb => ?_)
      · refine ⟨Nat.zero_le _, ?_⟩
        intro e he
        have s4 := same_upd (o := .lst []) he
        have ve : upd G3 e (.lst []) e = some (.lst []) := upd_same
        obtain ⟨G4, hG4⟩ : ∃ G4, G4 = upd G3 e (.lst []) := ⟨_, rfl⟩
        rw [← hG4] at s4 ve
        rw [← hG4]
        refine ⟨_, rfl, _, rfl, Lv, _, _, _, rfl, rfl, SqL.of (s4 _ _ W3.oL), at1 rfl, _, rfl, lv1, t, ls, L, Dd, rfl, s4 _ _ hlv, hL.imp fun a zs z => sqt_same s4 z, by omega, hD.imp fun a zs z => sqt_same s4 z, fun lv' G5 ls' s5 hlv' hL' nl => ?_⟩
        have s35 := s4.trans s5
        refine ⟨_, rfl, _, rfl, Lv, _, _, _, rfl, rfl, s35 _ _ W3.oL, rfl, ?_⟩
        obtain ⟨G6, hG6⟩ : ∃ G6, G6 = upd G5 Lv (.lst (pr1 (.ref lv') (.ref lv0))) := ⟨_, rfl⟩
        rw [← (show G6 = upd G5 Lv (.lst (List.set [.ref lv0, .ref lv1] (Int.toNat 1) (.ref lv'))) from hG6)]
        have vLv : G6 Lv = some (.lst (pr1 (.ref lv') (.ref lv0))) := by rw [hG6]; exact upd_same
        obtain ⟨SS, hSS⟩ : ∃ SS, SS = [p1, Hd, Lv, Sn, sn1, cm1, gn1] := ⟨_, rfl⟩
        have nt : ∀ s ∈ SS, NT G3 s := by
          intro s hs
          rw [hSS] at hs
          simp only [List.mem_cons, List.not_mem_nil, or_false] at hs
          rcases hs with rfl | rfl | rfl | rfl | rfl | rfl | rfl
          · exact .inr ⟨_, _, _, hp⟩
          · exact .inl ⟨_, W3.oH⟩
          · exact .inl ⟨_, W3.oL⟩
          · exact .inl ⟨_, W3.oS⟩
          · exact .inl ⟨_, hsn⟩
          · exact .inl ⟨_, hcm⟩
          · exact .inl ⟨_, hgn⟩
        have mem : ∀ {x : Addr}, x ∈ [p1, Hd, Lv, Sn, sn1, cm1, gn1] → x ∈ SS := fun h => by rw [hSS]; exact h
        have notin : ∀ {x : Addr}, x ≠ p1 → x ≠ Hd → x ≠ Lv → x ≠ Sn → x ≠ sn1 → x ≠ cm1 → x ≠ gn1 → x ∉ SS := fun h1 h2 h3 h4 h5 h6 h7 => by
          rw [hSS]; simp only [List.mem_cons, List.not_mem_nil, or_false, not_or]; exact ⟨h1, h2, h3, h4, h5, h6, h7⟩
        have c6 : ChgS SS G3 G6 := by rw [hG6]; exact (Same.s s35).put (mem (by simp))
        have all := W3.all
        have nlv : lv' ≠ Lv := by
          intro z
          rcases nl with e1 | e1
          · exact (nd_at ND 11 10) (e1 ▸ z)
          · rw [z, s4 _ _ W3.oL] at e1; cases e1
        have vlv' : G6 lv' = some (.lst ls') := by rw [hG6, upd_ne nlv]; exact hlv'
        have i6 : ∀ a xs, SqT K G3 a xs → SqT K G6 a xs := fun _ _ z => sqt_chgS c6 nt z
        have i56 : ∀ a xs, SqT K G5 a xs → SqT K G6 a xs := fun _ _ z => by rw [hG6]; exact sqt_chg ⟨_, s35 _ _ W3.oL⟩ Chg.self z
        have hL6 : Sts K G6 ls' (liveB L Dd) := hL'.imp i56
        have k6 : ∀ {x : Addr} {o : HO}, x ≠ Lv → G3 x = some o → G6 x = some o := fun n e => by rw [hG6, upd_ne n]; exact s35 _ _ e
        have ve6 : G6 e = some (.lst []) := by
          have n : e ≠ Lv := (ne_of_none W3.oL he).symm
          rw [hG6, upd_ne n]
          exact s5 _ _ ve
        have hD6 : DeedAt K G6 t Dd := hD.imp i6
        have hp6 := k6 (nd_at ND 15 10) hp
        cases Dd with
        | ask x9 n' =>
          refine ⟨_, rfl, t, _, _, _, rfl, rfl, hD6.1, at0 rfl, rfl, _, rfl, ?_⟩
          rw [dec_str]
          refine iteT' (by decide +kernel) ?_
          have ncL : cm1 ≠ Lv := (nd_at ND 5 10)
          have hcm6 := k6 ncL hcm
          refine ⟨_, rfl, _, rfl, Cm, _, _, _, rfl, rfl, SqL.of (k6 (nd_at ND 4 10) W3.oC), at1 rfl, .inl ⟨rfl, _, SqL.of hcm6⟩, _, rfl, t, _, _, _, rfl, rfl, hD6.1, at1 rfl, cm1, _, _, rfl, rfl, hcm6, Nat.lt_of_lt_of_le (show cs2.length < 100 by rw [hC.len]; omega) (by decide), ?_⟩
          obtain ⟨csA, ecs⟩ : ∃ csA, csA = cs2 ++ [V.ref x9] := ⟨_, rfl⟩
          obtain ⟨GA, hGA⟩ : ∃ GA, GA = upd G6 cm1 (.lst csA) := ⟨_, rfl⟩
          rw [← (show GA = upd G6 cm1 (.lst (cs2 ++ [V.ref x9])) from by rw [hGA, ecs])]
          have cA : ChgS SS G3 GA := by rw [hGA]; exact c6.put (mem (by simp))
          have kA : ∀ {x : Addr} {o : HO}, x ≠ cm1 → G6 x = some o → GA x = some o := fun n e => by rw [hGA, upd_ne n]; exact e
          have i6A : ∀ a xs, SqT K G6 a xs → SqT K GA a xs := fun _ _ z => by rw [hGA]; exact sqt_chg ⟨_, hcm6⟩ Chg.self z
          have nlc : lv' ≠ cm1 := by
            rcases nl with e1 | e1
            · rw [e1]; exact (nd_at ND 11 5)
            · exact (ne_of_none (s4 _ _ hcm) e1).symm
          have nec : e ≠ cm1 := (ne_of_none hcm he).symm
          have vLvA := kA (nd_at ND 10 5) vLv; have vlvA := kA nlc vlv'; have hLA := hL6.imp i6A; have hDA := hD6.imp i6A; have oHA := kA (nd_at ND 13 5) (k6 (nd_at ND 13 10) W3.oH); have oSA := kA (nd_at ND 7 5) (k6 (nd_at ND 7 10) W3.oS); have veA := kA nec ve6
          have hpA := kA (nd_at ND 15 5) hp6; have hsnA := kA (nd_at ND 8 5) (k6 (nd_at ND 8 10) hsn); have hgnA := kA (nd_at ND 2 5) (k6 (nd_at ND 2 10) hgn)
          have hcmA : GA cm1 = some (.lst csA) := by rw [hGA]; exact upd_same
          obtain ⟨gsA, egs⟩ : ∃ gsA, gsA = gs := ⟨_, rfl⟩
          obtain ⟨CA, eCA⟩ : ∃ CA, CA = Cd ++ [n'] := ⟨_, rfl⟩
          obtain ⟨zA, hxA, sx⟩ := id hDA
          have hCA : Sts K GA csA CA := by rw [ecs, eCA]; exact (hC.imp (fun _ _ z => sqt_chgS cA nt z)).app (Sts.one hxA sx)
          rw [← egs] at hgnA
          have lCA : CA.length ≤ j + 1 := by rw [eCA, List.length_append, List.length_singleton]; omega
          have lgA : gsA.length ≤ j + 1 := by rw [egs]; omega
          have hnC : n' ∉ Cd := hbb x9 n' rfl cb
          have lenLB : (L ++ [n']).length ≤ j + 1 := by rw [List.length_append, List.length_singleton]; omega
          refine ⟨_, rfl, t, _, _, _, rfl, rfl, zA, at0 rfl, rfl, _, rfl, ?_⟩
          rw [dec_str]
          refine iteF' (by decide +kernel) ?_
          by_cases mn : m = none
          · skip
            have iA : ∀ a xs, SqT K G3 a xs → SqT K GA a xs := fun _ _ z => sqt_chgS cA nt z
            refine ⟨_, rfl, _, rfl, Hd, _, _, _, rfl, rfl, SqL.of oHA, at1 rfl, _, rfl, _, t, _, _, rfl, hhv.imp iA, hDA, ?_⟩
            refine ⟨_, rfl, ?_⟩
            refine iteT' (by simp [freedB, mn]) ?_
            have eL : L = [] := dat.non mn
            have eM : M = [] := by
              have d2 := dat
              rw [mn] at d2
              exact d2.mnone
            refine ⟨Nat.zero_le _, ?_⟩
            intro e2 he2
            have s7 := same_upd (o := .lst []) he2
            have c7 := cA.new (o := .lst []) he2
            refine ⟨_, rfl, _, rfl, Sn, _, _, _, rfl, rfl, s7 _ _ oSA, rfl, ?_⟩
            obtain ⟨G8, hG8⟩ : ∃ G8, G8 = upd (upd GA e2 (.lst [])) Sn (.lst (pr1 (.ref e2) (.ref sn0))) := ⟨_, rfl⟩
            rw [← (show G8 = upd (upd GA e2 (.lst [])) Sn (.lst (List.set [.ref sn0, .ref sn1] (Int.toNat 1) (.ref e2))) from hG8)]
            have c8 : ChgS SS G3 G8 := by rw [hG8]; exact c7.put (mem (by simp))
            have vSn8 : G8 Sn = some (.lst (pr1 (.ref e2) (.ref sn0))) := by rw [hG8]; exact upd_same
            have k8 : ∀ {x : Addr} {o : HO}, x ≠ Sn → GA x = some o → G8 x = some o := fun n e => by rw [hG8, upd_ne n]; exact s7 _ _ e
            have ne2 : e2 ≠ Sn := (ne_of_none oSA he2).symm
            have ve2 : G8 e2 = some (.lst []) := by rw [hG8, upd_ne ne2]; exact upd_same
            have oH8 := k8 (nd_at ND 13 7) oHA
            have vLv8 := k8 (nd_at ND 10 7) vLvA
            have nlS : lv' ≠ Sn := by
              rcases nl with e1 | e1
              · rw [e1]; exact (nd_at ND 11 7)
              · exact (ne_of_none (s4 _ _ W3.oS) e1).symm
            have vlv8 := k8 nlS vlvA
            have iA8 : ∀ a xs, SqT K GA a xs → SqT K G8 a xs := fun _ _ z => by rw [hG8]; exact sqt_chg ⟨_, s7 _ _ oSA⟩ Chg.self (sqt_same s7 z)
            have hL8 : Sts K G8 ls' (L ++ [n']) := hLA.imp iA8
            have i8 : ∀ a xs, SqT K G3 a xs → SqT K G8 a xs := fun _ _ z => sqt_chgS c8 nt z
            have nlH : lv' ≠ Hd := by
              rcases nl with e1 | e1
              · rw [e1]; exact (nd_at ND 11 13)
              · exact (ne_of_none (s4 _ _ W3.oH) e1).symm
            refine ⟨_, rfl, _, rfl, Lv, _, _, _, rfl, rfl, SqL.of vLv8, at1 rfl, lv', ls', (L ++ [n']), rfl, rfl, SqL.of vlv8, hL8, fun el => ?_, fun x nx hx hnx tx least => ?_⟩
            · simp at el
            · skip
              refine ⟨_, rfl, _, rfl, Hd, _, _, _, rfl, rfl, oH8, rfl, ?_⟩
              obtain ⟨G9, hG9⟩ : ∃ G9, G9 = upd G8 Hd (.lst (pr1 x hv0)) := ⟨_, rfl⟩
              rw [← (show G9 = upd G8 Hd (.lst (List.set [hv0, hv1] (Int.toNat 1) x)) from hG9)]
              have c9 : ChgS SS G3 G9 := by rw [hG9]; exact c8.put (mem (by simp))
              have k9 : ∀ {x : Addr} {o : HO}, x ≠ Hd → G8 x = some o → G9 x = some o := fun n e => by rw [hG9, upd_ne n]; exact e
              have vHd9 : G9 Hd = some (.lst (pr1 x hv0)) := by rw [hG9]; exact upd_same
              have i89 : ∀ a xs, SqT K G8 a xs → SqT K G9 a xs := fun _ _ z => by rw [hG9]; exact sqt_chg ⟨_, oH8⟩ Chg.self z
              have ne2H : e2 ≠ Hd := fun z => by rw [z, s7 _ _ oHA |> fun _ => oHA] at he2; cases he2
              have vlv9 := k9 nlH vlv8
              have hL9 : Sts K G9 ls' (L ++ [n']) := hL8.imp i89
              refine ⟨_, rfl, _, rfl, Lv, _, _, _, rfl, rfl, SqL.of (k9 (nd_at ND 10 13) vLv8), at1 rfl, Nat.zero_le _, ?_⟩
              intro e3 he3
              have s10 := same_upd (o := .lst []) he3
              refine ⟨.list ((L ++ [n']).map stD), .list [], .lst (SqL.of (s10 _ _ vlv9)) (hL9.imp fun a zs z => sqt_same s10 z).dps, .lst (SqL.of upd_same) .nil, shaped_lsts _, by decide, _, rfl, ?_⟩
              rw [eqv_nil]
              have enx : nx = n' := by rw [eL] at hnx; exact List.mem_singleton.mp hnx
              subst enx
              obtain ⟨tx', ex', zx'⟩ := id tx
              subst ex'
              refine iteT' (by rw [decide_eq_false (fun z => by rw [z] at hnx; exact List.not_mem_nil hnx)]; rfl) ?_
              refine ⟨_, rfl, _, rfl, Hd, _, _, _, rfl, rfl, SqL.of (s10 _ _ vHd9), at1 rfl, by show 2 ≤ sizeLine; decide, ?_⟩
              intro t2 ht2
              refine ⟨by show 1 ≤ sizeLine; decide, ?_⟩
              intro E2 hE2
              have s11 := s10.trans (same_upd (o := .tup [.str "vote", .ref tx']) ht2)
              have s12 := s11.trans (same_upd (o := .lst [.ref t2]) hE2)
              obtain ⟨GB, hGB⟩ : ∃ GB, GB = upd (upd (upd G9 e3 (.lst [])) t2 (.tup [.str "vote", .ref tx'])) E2 (.lst [.ref t2]) := ⟨_, rfl⟩
              have sB : Same G9 GB := by rw [hGB]; exact s12
              have vt2 : GB t2 = some (.tup [.str "vote", .ref tx']) := by rw [hGB]; exact same_upd hE2 _ _ upd_same
              have vE2 : GB E2 = some (.lst [.ref t2]) := by rw [hGB]; exact upd_same
              have cB : ChgS SS G3 GB := c9.trans (Same.s sB)
              have hpB : GB p1 = some (.ins C dx1 (deskF h (.ref qa) b)) := sB _ _ (k9 (nd_at ND 15 13) (k8 (nd_at ND 15 7) hpA))
              rw [← hGB]
              have snx : StN nx := hL8.st nx hnx
              have hxB : TupI K GB (.ref tx') nx := ⟨tx', rfl, sqt_same sB (i89 _ _ zx')⟩
              have iB : ∀ a xs, SqT K G3 a xs → SqT K GB a xs := fun _ _ z => sqt_chgS cB nt z
              have hDB : DeedAt K GB t _ := hD.imp iB
              have oDB := cB _ _ (notin (nd_at ND 14 15) (nd_at ND 14 13) (nd_at ND 14 10) (nd_at ND 14 7) (nd_at ND 14 8) (nd_at ND 14 5) (nd_at ND 14 2)) W3.oD
              have hqB := iB _ _ hq
              have hMB : Sts K GB ys M := hM.imp iB
              have hhB : HeldV K GB h m := hh.imp iB
              have holdB : HoldM K GB h M m := by
                rcases hhB with ⟨e1, e2⟩ | z
                · refine .inl ⟨e1, ?_, e2⟩
                  have d2 := dat
                  rw [e2] at d2
                  exact d2.mnone
                · exact .inr z
              have lenM : M.length < 63 := by
                have := dat.pm.length_eq
                have l2 := List.length_filter_le (fun k => !decide (m = some k)) L
                omega
              refine ⟨_, rfl, _, rfl, D, _, _, _, rfl, rfl, SqL.of oDB, at1 rfl, _, rfl, p1, t, dx1, h, .ref qa, b, _, rfl, hpB, hDB, ?_⟩
              have ey : ys = [] := List.eq_nil_of_length_eq_zero (by rw [hM.len, eM]; rfl)
              have eh : h = .non := by
                rcases hh with ⟨e1, _⟩ | ⟨_, _, _, _, _, e1⟩
                · exact e1
                · rw [mn] at e1; cases e1
              refine ⟨p1, dx1, qa, x9, h, b, ys, M, nx, rfl, hpB, hqB, hMB, hDB.2.1, sx, lenM, .inr ⟨eh, ey, fun l6 t6 q6 H6 hl6 hl6v ht6 hq6 hp6' ch => ?_⟩⟩
              have c6' : ChgS SS G3 H6 := cB.trans (Chg.s ch (mem (by simp)))
              have iH : ∀ a xs, SqT K GB a xs → SqT K H6 a xs := fun _ _ z => sqt_chgI hpB ch z
              have i3H : ∀ a xs, SqT K G3 a xs → SqT K H6 a xs := fun _ _ z => sqt_chgS c6' nt z
              have nEp : E2 ≠ p1 := ne_of vE2 hpB (by intro z; cases z)
              have vEH := ch _ _ nEp vE2
              have hxH : TupI K H6 (.ref tx') nx := by obtain ⟨_, e1, z⟩ := hxB; exact ⟨_, e1, iH _ _ z⟩
              have hx6 : TupI K H6 (.ref x9) nx := by obtain ⟨_, e1, z⟩ := hDB.2.1; exact ⟨_, e1, iH _ _ z⟩
              refine ⟨_, rfl, _, _, rfl, .inr ⟨l6, E2, [.ref t6], [.ref t2], _, 2, rfl, rfl, hl6v, vEH, dp_due (SqT.of ht6) hx6, dp_due (iH _ _ (SqT.of vt2)) hxH, rfl, by show 1 < 10000; decide, lv_due _ (by rw [sx.1]; decide)⟩, ?_⟩
              refine ⟨_, rfl, iteF' rfl ?_⟩
              have e2SS : e2 ∉ SS := notin (ne_of_none hpA he2).symm (ne_of_none oHA he2).symm (ne_of_none vLvA he2).symm (ne_of_none oSA he2).symm (ne_of_none hsnA he2).symm (ne_of_none hcmA he2).symm (ne_of_none hgnA he2).symm
              have e23 : G3 e2 = none := cA.back he2 e2SS
              have e2lv : e2 ≠ lv' := (ne_of_none vlvA he2).symm
              have nd1 : [l, Gn, gn1, gn0, Cm, cm1, cm0, Sn, sn1, sn0, Lv, lv', lv0, Hd, D, p1, p0].Nodup := by
                rcases nl with e1 | e1
                · rw [e1]; exact ND
                · exact nd_set 11 ND fun mm => all _ mm (by
                    cases z : G3 lv' with
                    | none => rfl
                    | some o => rw [s4 _ _ z] at e1; cases e1)
              have nd2 : [l, Gn, gn1, gn0, Cm, cm1, cm0, Sn, e2, sn0, Lv, lv', lv0, Hd, D, p1, p0].Nodup := nd_set 8 nd1 fun mm => by
                have mm' : e2 ∈ [l, Gn, gn1, gn0, Cm, cm1, cm0, Sn, sn1, sn0, Lv, lv1, lv0, Hd, D, p1, p0].set 11 lv' := mm
                rcases List.mem_or_eq_of_mem_set mm' with z | z
                · exact all _ z e23
                · exact e2lv z
              have lst_ne : ∀ {y : Addr} {zs : List V}, GB y = some (.lst zs) → y ≠ p1 := fun h => ne_of h hpB (by intro z; cases z)
              have vlvB := sB _ _ vlv9
              have vlvH := ch _ _ (lst_ne vlvB) vlvB
              have ve2B := sB _ _ (k9 ne2H ve2)
              have ve2H := ch _ _ (lst_ne ve2B) ve2B
              have vcmB := sB _ _ (k9 (nd_at ND 5 13) (k8 (nd_at ND 5 7) hcmA))
              have vcmH := ch _ _ (lst_ne vcmB) vcmB
              have vgnB := sB _ _ (k9 (nd_at ND 2 13) (k8 (nd_at ND 2 7) hgnA))
              have vgnH := ch _ _ (lst_ne vgnB) vgnB
              have oHH := ch _ _ (lst_ne (sB _ _ vHd9)) (sB _ _ vHd9)
              have oLH := ch _ _ (nd_at ND 10 15) (sB _ _ (k9 (nd_at ND 10 13) vLv8))
              have oSH := ch _ _ (nd_at ND 7 15) (sB _ _ (k9 (nd_at ND 7 13) vSn8))
              have hLH : Sts K H6 ls' (L ++ [nx]) := hL9.imp fun a zs z => iH _ _ (sqt_same sB z)
              have hCH : Sts K H6 csA CA := hCA.imp fun a zs z => iH _ _ (sqt_same sB (i89 _ _ (iA8 _ _ z)))
              have datN : Dat (L ++ [nx]) [] (some nx) CA := by
                rw [eL, eCA]
                exact Dat.first (by simp) (List.Perm.refl _) (List.pairwise_singleton _ _) fun k hk => by rw [List.mem_singleton.mp hk]; simp
              have dN : Dk K C H6 p1 dx1 (.ref tx') lv' e2 cm1 gn1 (j + 1) := ⟨.ref x9, q6, false, [], ls', [], csA, [], L ++ [nx], [], CA, gsA, some nx, hp6', .inr ⟨x9, nx, rfl, hx6, sx, rfl⟩, .inr ⟨tx', nx, rfl, hxH, sx, rfl⟩, hq6, .nil, vlvH, hLH, ve2H, .nil, vcmH, hCH, vgnH,
                (by simp), datN, (fun z => by cases z), lenLB, Nat.zero_le _, lCA, lgA⟩
              have hB := (W3.d0.next.chg c6' nt (notin (nd_at ND 16 15) (nd_at ND 16 13) (nd_at ND 16 10) (nd_at ND 16 7) (nd_at ND 16 8) (nd_at ND 16 5) (nd_at ND 16 2)) (notin (nd_at ND 12 15) (nd_at ND 12 13) (nd_at ND 12 10) (nd_at ND 12 7) (nd_at ND 12 8) (nd_at ND 12 5) (nd_at ND 12 2))
                (notin (nd_at ND 9 15) (nd_at ND 9 13) (nd_at ND 9 10) (nd_at ND 9 7) (nd_at ND 9 8) (nd_at ND 9 5) (nd_at ND 9 2)) (notin (nd_at ND 6 15) (nd_at ND 6 13) (nd_at ND 6 10) (nd_at ND 6 7) (nd_at ND 6 8) (nd_at ND 6 5) (nd_at ND 6 2))
                (notin (nd_at ND 3 15) (nd_at ND 3 13) (nd_at ND 3 10) (nd_at ND 3 7) (nd_at ND 3 8) (nd_at ND 3 5) (nd_at ND 3 2)))
              have WN : Wd K C H6 cs l D Hd Lv Sn Cm Gn p0 p1 dx0 dx1 hv0 _ lv0 lv' sn0 e2 cm0 cm1 gn0 gn1 (j + 1) := {
                nd := nd2
                ol := c6' _ _ (notin (nd_at ND 0 15) (nd_at ND 0 13) (nd_at ND 0 10) (nd_at ND 0 7) (nd_at ND 0 8) (nd_at ND 0 5) (nd_at ND 0 2)) W3.ol
                oD := c6' _ _ (notin (nd_at ND 14 15) (nd_at ND 14 13) (nd_at ND 14 10) (nd_at ND 14 7) (nd_at ND 14 8) (nd_at ND 14 5) (nd_at ND 14 2)) W3.oD
                oH := oHH
                oL := oLH
                oS := oSH
                oC := c6' _ _ (notin (nd_at ND 4 15) (nd_at ND 4 13) (nd_at ND 4 10) (nd_at ND 4 7) (nd_at ND 4 8) (nd_at ND 4 5) (nd_at ND 4 2)) W3.oC
                oG := c6' _ _ (notin (nd_at ND 1 15) (nd_at ND 1 13) (nd_at ND 1 10) (nd_at ND 1 7) (nd_at ND 1 8) (nd_at ND 1 5) (nd_at ND 1 2)) W3.oG
                d1 := dN
                d0 := hB }
              exact last_look WN j1 (fun σ' G' hσ s' => ⟨hσ, _, _, _, _, _, _, WN.same s'⟩)
          · obtain ⟨hd, k, ehd, hhd, sk, em⟩ : ∃ hd k, h = V.ref hd ∧ TupI K G3 (.ref hd) k ∧ StN k ∧ m = some k := by
              rcases hh with ⟨_, e1⟩ | z
              · exact absurd e1 mn
              · exact z
            obtain ⟨hh', k', ehv, hhw, _, em'⟩ : ∃ hd k, hv1 = V.ref hd ∧ TupI K G3 (.ref hd) k ∧ StN k ∧ m = some k := by
              rcases hhv with ⟨_, e1⟩ | z
              · exact absurd e1 mn
              · exact z
            have ek : k' = k := by rw [em] at em'; exact (Option.some.inj em').symm
            subst ek
            have datm : ∀ M6, M6.Perm (M ++ [n']) → Up M6 → Dat (L ++ [n']) M6 m CA := fun M6 pM6 up6 => by
              have d2 := dat
              rw [em] at d2 ⊢
              rw [eCA]
              exact d2.more hnC pM6 up6
            have iA : ∀ a xs, SqT K G3 a xs → SqT K GA a xs := fun _ _ z => sqt_chgS cA nt z
            refine ⟨_, rfl, _, rfl, Hd, _, _, _, rfl, rfl, SqL.of oHA, at1 rfl, _, rfl, _, t, _, _, rfl, hhv.imp iA, hDA, ?_⟩
            refine ⟨_, rfl, ?_⟩
            refine iteF' (by simp [freedB, mn]) ?_
            refine ⟨_, rfl, t, _, _, _, rfl, rfl, zA, at0 rfl, rfl, _, rfl, ?_⟩
            rw [dec_str]
            refine iteT' (by decide +kernel) ?_
            obtain ⟨tx, etx, zxA⟩ := id hxA
            cases etx
            obtain ⟨th, eth, zh⟩ := id hhw
            cases eth
            refine ⟨_, rfl, t, _, _, _, rfl, rfl, zA, at1 rfl, _, rfl, _, rfl, Hd, _, _, _, rfl, rfl, SqL.of oHA, at1 rfl, x9, hh', n', k', rfl, ehv, zxA, iA _ _ zh, _, rfl, ?_⟩
            cases hlt : HT.lexLt n' k' with
            | false =>
              refine iteF ?_
              obtain ⟨GB, hGB⟩ : ∃ GB, GB = GA := ⟨_, rfl⟩
              have cB := cA; have hpB := hpA; have veB := veA
              rw [← hGB] at cB hpB veB
              rw [← hGB]
              have iB : ∀ a xs, SqT K G3 a xs → SqT K GB a xs := fun _ _ z => sqt_chgS cB nt z
              have hDB : DeedAt K GB t _ := hD.imp iB
              have oDB := cB _ _ (notin (nd_at ND 14 15) (nd_at ND 14 13) (nd_at ND 14 10) (nd_at ND 14 7) (nd_at ND 14 8) (nd_at ND 14 5) (nd_at ND 14 2)) W3.oD
              have hqB := iB _ _ hq
              have hMB : Sts K GB ys M := hM.imp iB
              have hhB : HeldV K GB h m := hh.imp iB
              have holdB : HoldM K GB h M m := by
                rcases hhB with ⟨e1, e2⟩ | z
                · refine .inl ⟨e1, ?_, e2⟩
                  have d2 := dat
                  rw [e2] at d2
                  exact d2.mnone
                · exact .inr z
              have lenM : M.length < 63 := by
                have := dat.pm.length_eq
                have l2 := List.length_filter_le (fun k => !decide (m = some k)) L
                omega
              refine ⟨_, rfl, _, rfl, D, _, _, _, rfl, rfl, SqL.of oDB, at1 rfl, _, rfl, p1, t, dx1, h, .ref qa, b, _, rfl, hpB, hDB, ?_⟩
              have hhdB : TupI K GB (.ref hd) k' := by obtain ⟨y, e1, z⟩ := hhd; exact ⟨y, e1, iB _ _ z⟩
              refine ⟨p1, dx1, qa, x9, _, b, ys, M, n', rfl, hpB, hqB, hMB, hDB.2.1, sx, lenM, .inl ⟨hd, k', ehd, hhdB, sk, fun l6 q6 H6 ys6 M6 hl6 hq6 hM6 pM6 up6 ch res => ?_⟩⟩
              rw [if_neg (by simp [hlt])] at res
              obtain ⟨hl6v, hp6'⟩ := res
              have datN := datm M6 pM6 up6
              rw [← ehd] at hp6'
              have c6' : ChgS SS G3 H6 := cB.trans (Chg.s ch (mem (by simp)))
              have iH : ∀ a xs, SqT K GB a xs → SqT K H6 a xs := fun _ _ z => sqt_chgI hpB ch z
              have i3H : ∀ a xs, SqT K G3 a xs → SqT K H6 a xs := fun _ _ z => sqt_chgS c6' nt z
              have nEp : e ≠ p1 := ne_of veB hpB (by intro z; cases z)
              have vEH := ch _ _ nEp veB
              refine ⟨_, rfl, _, _, rfl, .inr ⟨l6, e, [], [], [], 2, rfl, rfl, hl6v, vEH, .nil, .nil, rfl, by decide, fun _ z => absurd z List.not_mem_nil⟩, ?_⟩
              refine ⟨_, rfl, iteF' rfl ?_⟩
              have nd1 : [l, Gn, gn1, gn0, Cm, cm1, cm0, Sn, sn1, sn0, Lv, lv', lv0, Hd, D, p1, p0].Nodup := by
                rcases nl with e1 | e1
                · rw [e1]; exact ND
                · exact nd_set 11 ND fun mm => all _ mm (by
                    cases z : G3 lv' with
                    | none => rfl
                    | some o => rw [s4 _ _ z] at e1; cases e1)
              have nd2 := nd1
              have lst_ne : ∀ {y : Addr} {zs : List V}, GB y = some (.lst zs) → y ≠ p1 := fun h => ne_of h hpB (by intro z; cases z)
              rw [← hGB] at vlvA hsnA hcmA hgnA oHA oSA vLvA
              have vlvH := ch _ _ (lst_ne vlvA) vlvA
              have vsnH := ch _ _ (lst_ne hsnA) hsnA
              have vcmH := ch _ _ (lst_ne hcmA) hcmA
              have vgnH := ch _ _ (lst_ne hgnA) hgnA
              have oHH := ch _ _ (nd_at ND 13 15) oHA
              have oLH := ch _ _ (nd_at ND 10 15) vLvA
              have oSH := ch _ _ (nd_at ND 7 15) oSA
              rw [← hGB] at hLA hCA
              have hLH : Sts K H6 ls' (L ++ [n']) := hLA.imp iH
              have hCH : Sts K H6 csA CA := hCA.imp iH
              have dN : Dk K C H6 p1 dx1 hv1 lv' sn1 cm1 gn1 (j + 1) := ⟨h, q6, b, ys6, ls', zs, csA, M6, (L ++ [n']), Z, CA, gsA, m, hp6', hh.imp i3H, hhv.imp i3H, hq6, hM6, vlvH, hLH, vsnH, hZ.imp i3H, vcmH, hCH, vgnH,
                hbz, datN, zn, lenLB, by omega, lCA, lgA⟩
              have hB := (W3.d0.next.chg c6' nt (notin (nd_at ND 16 15) (nd_at ND 16 13) (nd_at ND 16 10) (nd_at ND 16 7) (nd_at ND 16 8) (nd_at ND 16 5) (nd_at ND 16 2)) (notin (nd_at ND 12 15) (nd_at ND 12 13) (nd_at ND 12 10) (nd_at ND 12 7) (nd_at ND 12 8) (nd_at ND 12 5) (nd_at ND 12 2))
                (notin (nd_at ND 9 15) (nd_at ND 9 13) (nd_at ND 9 10) (nd_at ND 9 7) (nd_at ND 9 8) (nd_at ND 9 5) (nd_at ND 9 2)) (notin (nd_at ND 6 15) (nd_at ND 6 13) (nd_at ND 6 10) (nd_at ND 6 7) (nd_at ND 6 8) (nd_at ND 6 5) (nd_at ND 6 2))
                (notin (nd_at ND 3 15) (nd_at ND 3 13) (nd_at ND 3 10) (nd_at ND 3 7) (nd_at ND 3 8) (nd_at ND 3 5) (nd_at ND 3 2)))
              have WN : Wd K C H6 cs l D Hd Lv Sn Cm Gn p0 p1 dx0 dx1 hv0 hv1 lv0 lv' sn0 sn1 cm0 cm1 gn0 gn1 (j + 1) := {
                nd := nd2
                ol := c6' _ _ (notin (nd_at ND 0 15) (nd_at ND 0 13) (nd_at ND 0 10) (nd_at ND 0 7) (nd_at ND 0 8) (nd_at ND 0 5) (nd_at ND 0 2)) W3.ol
                oD := c6' _ _ (notin (nd_at ND 14 15) (nd_at ND 14 13) (nd_at ND 14 10) (nd_at ND 14 7) (nd_at ND 14 8) (nd_at ND 14 5) (nd_at ND 14 2)) W3.oD
                oH := oHH
                oL := oLH
                oS := oSH
                oC := c6' _ _ (notin (nd_at ND 4 15) (nd_at ND 4 13) (nd_at ND 4 10) (nd_at ND 4 7) (nd_at ND 4 8) (nd_at ND 4 5) (nd_at ND 4 2)) W3.oC
                oG := c6' _ _ (notin (nd_at ND 1 15) (nd_at ND 1 13) (nd_at ND 1 10) (nd_at ND 1 7) (nd_at ND 1 8) (nd_at ND 1 5) (nd_at ND 1 2)) W3.oG
                d1 := dN
                d0 := hB }
              exact last_look WN j1 (fun σ' G' hσ s' => ⟨hσ, _, _, _, _, _, _, WN.same s'⟩)
            | true =>
              refine iteT ?_
              refine ⟨_, rfl, _, rfl, Sn, _, _, _, rfl, rfl, SqL.of oSA, at1 rfl, Nat.zero_le _, ?_⟩
              intro e3 he3
              have s10 := same_upd (o := .lst []) he3
              have cC0 := cA.new (o := .lst []) he3
              refine ⟨.list (Z.map stD), .list [], .lst (SqL.of (s10 _ _ hsnA)) (hZ.imp fun a zs z => sqt_same s10 (iA _ _ z)).dps, .lst (SqL.of upd_same) .nil, shaped_lsts _, by decide, _, rfl, ?_⟩
              rw [eqv_nil]
              by_cases cz : Z = []
              · refine iteT' (by simp [cz]) ?_
                refine ⟨_, rfl, _, rfl, Hd, _, _, _, rfl, rfl, SqL.of (s10 _ _ oHA), at1 rfl, by show 2 ≤ sizeLine; decide, ?_⟩
                intro t2 ht2
                refine ⟨by show 1 ≤ sizeLine; decide, ?_⟩
                intro E2 hE2
                have s11 := s10.trans (same_upd (o := .tup [.str "back", hv1]) ht2)
                have s12 := s11.trans (same_upd (o := .lst [.ref t2]) hE2)
                obtain ⟨GC, hGC⟩ : ∃ GC, GC = upd (upd (upd GA e3 (.lst [])) t2 (.tup [.str "back", hv1])) E2 (.lst [.ref t2]) := ⟨_, rfl⟩
                have sAC : Same GA GC := by rw [hGC]; exact s12
                have vt2 : GC t2 = some (.tup [.str "back", hv1]) := by rw [hGC]; exact same_upd hE2 _ _ upd_same
                have vE2 : GC E2 = some (.lst [.ref t2]) := by rw [hGC]; exact upd_same
                have cC : ChgS SS G3 GC := cA.trans (Same.s sAC)
                have oSC := sAC _ _ oSA
                have hsnC := sAC _ _ hsnA
                rw [← hGC]
                have nE2 : E2 ≠ sn1 := fun z => by
                  have := s11 _ _ hsnA
                  rw [← z, hE2] at this
                  cases this
                have hDC := hD.imp (fun _ _ z => sqt_chgS cC nt z)
                refine ⟨_, rfl, _, rfl, Sn, _, _, _, rfl, rfl, SqL.of oSC, at1 rfl, .inl ⟨rfl, _, SqL.of hsnC⟩, _, rfl, t, _, _, _, rfl, rfl, hDC.1, at1 rfl, sn1, _, _, rfl, rfl, hsnC, Nat.lt_of_lt_of_le (show zs.length < 100 by rw [hZ.len]; omega) (by decide), ?_⟩
                obtain ⟨GB, hGB⟩ : ∃ GB, GB = upd GC sn1 (.lst (zs ++ [V.ref x9])) := ⟨_, rfl⟩
                rw [← hGB]
                have cB : ChgS SS G3 GB := by rw [hGB]; exact cC.put (mem (by simp))
                have kB : ∀ {x : Addr} {o : HO}, x ≠ sn1 → GC x = some o → GB x = some o := fun n e => by rw [hGB, upd_ne n]; exact e
                have hsnB : GB sn1 = some (.lst (zs ++ [V.ref x9])) := by rw [hGB]; exact upd_same
                have iCB : ∀ a xs, SqT K GC a xs → SqT K GB a xs := fun _ _ z => by rw [hGB]; exact sqt_chg ⟨_, hsnC⟩ Chg.self z
                have hpB := kB (nd_at ND 15 8) (sAC _ _ hpA)
                have nls : lv' ≠ sn1 := by
                  rcases nl with e1 | e1
                  · rw [e1]; exact (nd_at ND 11 8)
                  · exact (ne_of_none (s4 _ _ hsn) e1).symm
                have vlvB := kB nls (sAC _ _ vlvA)
                have vcmB := kB (nd_at ND 5 8) (sAC _ _ hcmA)
                have vgnB := kB (nd_at ND 2 8) (sAC _ _ hgnA)
                have oHB := kB (nd_at ND 13 8) (sAC _ _ oHA)
                have oLB := kB (nd_at ND 10 8) (sAC _ _ vLvA)
                have oSB := kB (nd_at ND 7 8) oSC
                have hLB : Sts K GB ls' (L ++ [n']) := hLA.imp fun _ _ z => iCB _ _ (sqt_same sAC z)
                have hCB : Sts K GB csA CA := hCA.imp fun _ _ z => iCB _ _ (sqt_same sAC z)
                have iB : ∀ a xs, SqT K G3 a xs → SqT K GB a xs := fun _ _ z => sqt_chgS cB nt z
                have hDB : DeedAt K GB t _ := hD.imp iB
                have oDB := cB _ _ (notin (nd_at ND 14 15) (nd_at ND 14 13) (nd_at ND 14 10) (nd_at ND 14 7) (nd_at ND 14 8) (nd_at ND 14 5) (nd_at ND 14 2)) W3.oD
                have hqB := iB _ _ hq
                have hMB : Sts K GB ys M := hM.imp iB
                have hhB : HeldV K GB h m := hh.imp iB
                have holdB : HoldM K GB h M m := by
                  rcases hhB with ⟨e1, e2⟩ | z
                  · refine .inl ⟨e1, ?_, e2⟩
                    have d2 := dat
                    rw [e2] at d2
                    exact d2.mnone
                  · exact .inr z
                have lenM : M.length < 63 := by
                  have := dat.pm.length_eq
                  have l2 := List.length_filter_le (fun k => !decide (m = some k)) L
                  omega
                refine ⟨_, rfl, _, rfl, D, _, _, _, rfl, rfl, SqL.of oDB, at1 rfl, _, rfl, p1, t, dx1, h, .ref qa, b, _, rfl, hpB, hDB, ?_⟩
                have hhdB : TupI K GB (.ref hd) k' := by obtain ⟨y, e1, z⟩ := hhd; exact ⟨y, e1, iB _ _ z⟩
                have vE2B := kB nE2 vE2
                refine ⟨p1, dx1, qa, x9, _, b, ys, M, n', rfl, hpB, hqB, hMB, hDB.2.1, sx, lenM, .inl ⟨hd, k', ehd, hhdB, sk, fun l6 q6 H6 ys6 M6 hl6 hq6 hM6 pM6 up6 ch res => ?_⟩⟩
                rw [if_pos (by rw [hlt, hbz, cz]; rfl)] at res
                obtain ⟨t6, hl6v, ht6, hp6'⟩ := res
                have c6' : ChgS SS G3 H6 := cB.trans (Chg.s ch (mem (by simp)))
                have iH : ∀ a xs, SqT K GB a xs → SqT K H6 a xs := fun _ _ z => sqt_chgI hpB ch z
                have i3H : ∀ a xs, SqT K G3 a xs → SqT K H6 a xs := fun _ _ z => sqt_chgS c6' nt z
                have nEp : E2 ≠ p1 := ne_of vE2B hpB (by intro z; cases z)
                have vEH := ch _ _ nEp vE2B
                have hh6 : TupI K H6 (.ref hd) k' := by obtain ⟨_, e1, z⟩ := hhdB; exact ⟨_, e1, iH _ _ z⟩
                have hw6 : TupI K H6 (.ref hh') k' := ⟨hh', rfl, i3H _ _ zh⟩
                rw [ehv] at vt2
                refine ⟨_, rfl, _, _, rfl, .inr ⟨l6, E2, [.ref t6], [.ref t2], _, 2, rfl, rfl, hl6v, vEH, dp_due (SqT.of ht6) hh6, dp_due (iH _ _ (iCB _ _ (SqT.of vt2))) hw6, rfl, by show 1 < 10000; decide, lv_due _ (by rw [sk.1]; decide)⟩, ?_⟩
                refine ⟨_, rfl, iteF' rfl ?_⟩
                have nd1 : [l, Gn, gn1, gn0, Cm, cm1, cm0, Sn, sn1, sn0, Lv, lv', lv0, Hd, D, p1, p0].Nodup := by
                  rcases nl with e1 | e1
                  · rw [e1]; exact ND
                  · exact nd_set 11 ND fun mm => all _ mm (by
                      cases z : G3 lv' with
                      | none => rfl
                      | some o => rw [s4 _ _ z] at e1; cases e1)
                have nd2 := nd1
                have lst_ne : ∀ {y : Addr} {zs : List V}, GB y = some (.lst zs) → y ≠ p1 := fun h => ne_of h hpB (by intro z; cases z)
                have vlvH := ch _ _ (lst_ne vlvB) vlvB
                have vsnH := ch _ _ (lst_ne hsnB) hsnB
                have vcmH := ch _ _ (lst_ne vcmB) vcmB
                have vgnH := ch _ _ (lst_ne vgnB) vgnB
                have oHH := ch _ _ (nd_at ND 13 15) oHB
                have oLH := ch _ _ (nd_at ND 10 15) oLB
                have oSH := ch _ _ (nd_at ND 7 15) oSB
                have hZH : Sts K H6 (zs ++ [V.ref x9]) (Z ++ [n']) := (hZ.imp i3H).app (Sts.one (by obtain ⟨y, e1, z⟩ := hDB.2.1; exact ⟨y, e1, iH _ _ z⟩) sx)
                have hmN : HeldV K H6 (.ref hd) m := .inr ⟨hd, k', rfl, (by obtain ⟨y, e1, z⟩ := hhdB; exact ⟨y, e1, iH _ _ z⟩), sk, em⟩
                have dN : Dk K C H6 p1 dx1 hv1 lv' sn1 cm1 gn1 (j + 1) := ⟨.ref hd, q6, true, ys6, ls', zs ++ [V.ref x9], csA, M6, L ++ [n'], Z ++ [n'], CA, gsA, m, hp6', hmN, hhv.imp i3H, hq6, hM6, vlvH, hLB.imp iH, vsnH, hZH, vcmH, hCB.imp iH, vgnH,
                  (by simp), datm M6 pM6 up6, (fun z => absurd z mn), lenLB, (by rw [List.length_append, List.length_singleton]; omega), lCA, lgA⟩
                have hB := (W3.d0.next.chg c6' nt (notin (nd_at ND 16 15) (nd_at ND 16 13) (nd_at ND 16 10) (nd_at ND 16 7) (nd_at ND 16 8) (nd_at ND 16 5) (nd_at ND 16 2)) (notin (nd_at ND 12 15) (nd_at ND 12 13) (nd_at ND 12 10) (nd_at ND 12 7) (nd_at ND 12 8) (nd_at ND 12 5) (nd_at ND 12 2))
                  (notin (nd_at ND 9 15) (nd_at ND 9 13) (nd_at ND 9 10) (nd_at ND 9 7) (nd_at ND 9 8) (nd_at ND 9 5) (nd_at ND 9 2)) (notin (nd_at ND 6 15) (nd_at ND 6 13) (nd_at ND 6 10) (nd_at ND 6 7) (nd_at ND 6 8) (nd_at ND 6 5) (nd_at ND 6 2))
                  (notin (nd_at ND 3 15) (nd_at ND 3 13) (nd_at ND 3 10) (nd_at ND 3 7) (nd_at ND 3 8) (nd_at ND 3 5) (nd_at ND 3 2)))
                have WN : Wd K C H6 cs l D Hd Lv Sn Cm Gn p0 p1 dx0 dx1 hv0 hv1 lv0 lv' sn0 sn1 cm0 cm1 gn0 gn1 (j + 1) := {
                  nd := nd2
                  ol := c6' _ _ (notin (nd_at ND 0 15) (nd_at ND 0 13) (nd_at ND 0 10) (nd_at ND 0 7) (nd_at ND 0 8) (nd_at ND 0 5) (nd_at ND 0 2)) W3.ol
                  oD := c6' _ _ (notin (nd_at ND 14 15) (nd_at ND 14 13) (nd_at ND 14 10) (nd_at ND 14 7) (nd_at ND 14 8) (nd_at ND 14 5) (nd_at ND 14 2)) W3.oD
                  oH := oHH
                  oL := oLH
                  oS := oSH
                  oC := c6' _ _ (notin (nd_at ND 4 15) (nd_at ND 4 13) (nd_at ND 4 10) (nd_at ND 4 7) (nd_at ND 4 8) (nd_at ND 4 5) (nd_at ND 4 2)) W3.oC
                  oG := c6' _ _ (notin (nd_at ND 1 15) (nd_at ND 1 13) (nd_at ND 1 10) (nd_at ND 1 7) (nd_at ND 1 8) (nd_at ND 1 5) (nd_at ND 1 2)) W3.oG
                  d1 := dN
                  d0 := hB }
                exact last_look WN j1 (fun σ' G' hσ s' => ⟨hσ, _, _, _, _, _, _, WN.same s'⟩)
              · refine iteF' (by simp [cz]) ?_
                obtain ⟨GC, hGC⟩ : ∃ GC, GC = upd GA e3 (.lst []) := ⟨_, rfl⟩
                have sAC : Same GA GC := by rw [hGC]; exact s10
                have cC : ChgS SS G3 GC := cA.trans (Same.s sAC)
                have oSC := sAC _ _ oSA
                have hsnC := sAC _ _ hsnA
                rw [← hGC]
                have neS : e ≠ sn1 := (ne_of_none hsn he).symm
                have hDC := hD.imp (fun _ _ z => sqt_chgS cC nt z)
                refine ⟨_, rfl, _, rfl, Sn, _, _, _, rfl, rfl, SqL.of oSC, at1 rfl, .inl ⟨rfl, _, SqL.of hsnC⟩, _, rfl, t, _, _, _, rfl, rfl, hDC.1, at1 rfl, sn1, _, _, rfl, rfl, hsnC, Nat.lt_of_lt_of_le (show zs.length < 100 by rw [hZ.len]; omega) (by decide), ?_⟩
                obtain ⟨GB, hGB⟩ : ∃ GB, GB = upd GC sn1 (.lst (zs ++ [V.ref x9])) := ⟨_, rfl⟩
                rw [← hGB]
                have cB : ChgS SS G3 GB := by rw [hGB]; exact cC.put (mem (by simp))
                have kB : ∀ {x : Addr} {o : HO}, x ≠ sn1 → GC x = some o → GB x = some o := fun n e => by rw [hGB, upd_ne n]; exact e
                have hsnB : GB sn1 = some (.lst (zs ++ [V.ref x9])) := by rw [hGB]; exact upd_same
                have iCB : ∀ a xs, SqT K GC a xs → SqT K GB a xs := fun _ _ z => by rw [hGB]; exact sqt_chg ⟨_, hsnC⟩ Chg.self z
                have hpB := kB (nd_at ND 15 8) (sAC _ _ hpA)
                have nls : lv' ≠ sn1 := by
                  rcases nl with e1 | e1
                  · rw [e1]; exact (nd_at ND 11 8)
                  · exact (ne_of_none (s4 _ _ hsn) e1).symm
                have vlvB := kB nls (sAC _ _ vlvA)
                have vcmB := kB (nd_at ND 5 8) (sAC _ _ hcmA)
                have vgnB := kB (nd_at ND 2 8) (sAC _ _ hgnA)
                have oHB := kB (nd_at ND 13 8) (sAC _ _ oHA)
                have oLB := kB (nd_at ND 10 8) (sAC _ _ vLvA)
                have oSB := kB (nd_at ND 7 8) oSC
                have hLB : Sts K GB ls' (L ++ [n']) := hLA.imp fun _ _ z => iCB _ _ (sqt_same sAC z)
                have hCB : Sts K GB csA CA := hCA.imp fun _ _ z => iCB _ _ (sqt_same sAC z)
                have iB : ∀ a xs, SqT K G3 a xs → SqT K GB a xs := fun _ _ z => sqt_chgS cB nt z
                have hDB : DeedAt K GB t _ := hD.imp iB
                have oDB := cB _ _ (notin (nd_at ND 14 15) (nd_at ND 14 13) (nd_at ND 14 10) (nd_at ND 14 7) (nd_at ND 14 8) (nd_at ND 14 5) (nd_at ND 14 2)) W3.oD
                have hqB := iB _ _ hq
                have hMB : Sts K GB ys M := hM.imp iB
                have hhB : HeldV K GB h m := hh.imp iB
                have holdB : HoldM K GB h M m := by
                  rcases hhB with ⟨e1, e2⟩ | z
                  · refine .inl ⟨e1, ?_, e2⟩
                    have d2 := dat
                    rw [e2] at d2
                    exact d2.mnone
                  · exact .inr z
                have lenM : M.length < 63 := by
                  have := dat.pm.length_eq
                  have l2 := List.length_filter_le (fun k => !decide (m = some k)) L
                  omega
                refine ⟨_, rfl, _, rfl, D, _, _, _, rfl, rfl, SqL.of oDB, at1 rfl, _, rfl, p1, t, dx1, h, .ref qa, b, _, rfl, hpB, hDB, ?_⟩
                have hhdB : TupI K GB (.ref hd) k' := by obtain ⟨y, e1, z⟩ := hhd; exact ⟨y, e1, iB _ _ z⟩
                have veB := kB neS (sAC _ _ veA)
                have eb : b = true := by rw [hbz]; simp [cz]
                refine ⟨p1, dx1, qa, x9, _, b, ys, M, n', rfl, hpB, hqB, hMB, hDB.2.1, sx, lenM, .inl ⟨hd, k', ehd, hhdB, sk, fun l6 q6 H6 ys6 M6 hl6 hq6 hM6 pM6 up6 ch res => ?_⟩⟩
                rw [if_neg (by simp [eb])] at res
                obtain ⟨hl6v, hp6'⟩ := res
                rw [eb] at hp6'
                have c6' : ChgS SS G3 H6 := cB.trans (Chg.s ch (mem (by simp)))
                have iH : ∀ a xs, SqT K GB a xs → SqT K H6 a xs := fun _ _ z => sqt_chgI hpB ch z
                have i3H : ∀ a xs, SqT K G3 a xs → SqT K H6 a xs := fun _ _ z => sqt_chgS c6' nt z
                have nEp : e ≠ p1 := ne_of veB hpB (by intro z; cases z)
                have vEH := ch _ _ nEp veB
                refine ⟨_, rfl, _, _, rfl, .inr ⟨l6, e, [], [], [], 2, rfl, rfl, hl6v, vEH, .nil, .nil, rfl, by decide, fun _ z => absurd z List.not_mem_nil⟩, ?_⟩
                refine ⟨_, rfl, iteF' rfl ?_⟩
                have nd1 : [l, Gn, gn1, gn0, Cm, cm1, cm0, Sn, sn1, sn0, Lv, lv', lv0, Hd, D, p1, p0].Nodup := by
                  rcases nl with e1 | e1
                  · rw [e1]; exact ND
                  · exact nd_set 11 ND fun mm => all _ mm (by
                      cases z : G3 lv' with
                      | none => rfl
                      | some o => rw [s4 _ _ z] at e1; cases e1)
                have nd2 := nd1
                have lst_ne : ∀ {y : Addr} {zs : List V}, GB y = some (.lst zs) → y ≠ p1 := fun h => ne_of h hpB (by intro z; cases z)
                have vlvH := ch _ _ (lst_ne vlvB) vlvB
                have vsnH := ch _ _ (lst_ne hsnB) hsnB
                have vcmH := ch _ _ (lst_ne vcmB) vcmB
                have vgnH := ch _ _ (lst_ne vgnB) vgnB
                have oHH := ch _ _ (nd_at ND 13 15) oHB
                have oLH := ch _ _ (nd_at ND 10 15) oLB
                have oSH := ch _ _ (nd_at ND 7 15) oSB
                have hZH : Sts K H6 (zs ++ [V.ref x9]) (Z ++ [n']) := (hZ.imp i3H).app (Sts.one (by obtain ⟨y, e1, z⟩ := hDB.2.1; exact ⟨y, e1, iH _ _ z⟩) sx)
                have hmN : HeldV K H6 (.ref hd) m := .inr ⟨hd, k', rfl, (by obtain ⟨y, e1, z⟩ := hhdB; exact ⟨y, e1, iH _ _ z⟩), sk, em⟩
                have dN : Dk K C H6 p1 dx1 hv1 lv' sn1 cm1 gn1 (j + 1) := ⟨.ref hd, q6, true, ys6, ls', zs ++ [V.ref x9], csA, M6, L ++ [n'], Z ++ [n'], CA, gsA, m, hp6', hmN, hhv.imp i3H, hq6, hM6, vlvH, hLB.imp iH, vsnH, hZH, vcmH, hCB.imp iH, vgnH,
                  (by simp), datm M6 pM6 up6, (fun z => absurd z mn), lenLB, (by rw [List.length_append, List.length_singleton]; omega), lCA, lgA⟩
                have hB := (W3.d0.next.chg c6' nt (notin (nd_at ND 16 15) (nd_at ND 16 13) (nd_at ND 16 10) (nd_at ND 16 7) (nd_at ND 16 8) (nd_at ND 16 5) (nd_at ND 16 2)) (notin (nd_at ND 12 15) (nd_at ND 12 13) (nd_at ND 12 10) (nd_at ND 12 7) (nd_at ND 12 8) (nd_at ND 12 5) (nd_at ND 12 2))
                  (notin (nd_at ND 9 15) (nd_at ND 9 13) (nd_at ND 9 10) (nd_at ND 9 7) (nd_at ND 9 8) (nd_at ND 9 5) (nd_at ND 9 2)) (notin (nd_at ND 6 15) (nd_at ND 6 13) (nd_at ND 6 10) (nd_at ND 6 7) (nd_at ND 6 8) (nd_at ND 6 5) (nd_at ND 6 2))
                  (notin (nd_at ND 3 15) (nd_at ND 3 13) (nd_at ND 3 10) (nd_at ND 3 7) (nd_at ND 3 8) (nd_at ND 3 5) (nd_at ND 3 2)))
                have WN : Wd K C H6 cs l D Hd Lv Sn Cm Gn p0 p1 dx0 dx1 hv0 hv1 lv0 lv' sn0 sn1 cm0 cm1 gn0 gn1 (j + 1) := {
                  nd := nd2
                  ol := c6' _ _ (notin (nd_at ND 0 15) (nd_at ND 0 13) (nd_at ND 0 10) (nd_at ND 0 7) (nd_at ND 0 8) (nd_at ND 0 5) (nd_at ND 0 2)) W3.ol
                  oD := c6' _ _ (notin (nd_at ND 14 15) (nd_at ND 14 13) (nd_at ND 14 10) (nd_at ND 14 7) (nd_at ND 14 8) (nd_at ND 14 5) (nd_at ND 14 2)) W3.oD
                  oH := oHH
                  oL := oLH
                  oS := oSH
                  oC := c6' _ _ (notin (nd_at ND 4 15) (nd_at ND 4 13) (nd_at ND 4 10) (nd_at ND 4 7) (nd_at ND 4 8) (nd_at ND 4 5) (nd_at ND 4 2)) W3.oC
                  oG := c6' _ _ (notin (nd_at ND 1 15) (nd_at ND 1 13) (nd_at ND 1 10) (nd_at ND 1 7) (nd_at ND 1 8) (nd_at ND 1 5) (nd_at ND 1 2)) W3.oG
                  d1 := dN
                  d0 := hB }
                exact last_look WN j1 (fun σ' G' hσ s' => ⟨hσ, _, _, _, _, _, _, WN.same s'⟩)
        | giv x n' =>
          refine ⟨_, rfl, t, _, _, _, rfl, rfl, hD6.1, at0 rfl, rfl, _, rfl, ?_⟩
          rw [dec_str]
          refine iteF' (by decide +kernel) ?_
          refine ⟨_, rfl, t, _, _, _, rfl, rfl, hD6.1, at0 rfl, rfl, _, rfl, ?_⟩
          rw [dec_str]
          refine iteF' (by decide +kernel) ?_
          obtain ⟨GA, hGA⟩ : ∃ GA, GA = G6 := ⟨_, rfl⟩
          have cA := c6; have vLvA := vLv; have vlvA := vlv'; have hLA := hL6; have hDA := hD6; have oHA := k6 (nd_at ND 13 10) W3.oH; have oSA := k6 (nd_at ND 7 10) W3.oS; have veA := ve6; have hpA := hp6; have hsnA := k6 (nd_at ND 8 10) hsn; have hcmA := k6 (nd_at ND 5 10) hcm; have hgnA := k6 (nd_at ND 2 10) hgn
          rw [← hGA] at cA vLvA vlvA hLA hDA oHA oSA veA hpA hsnA hcmA hgnA
          rw [← hGA]
          obtain ⟨csA, ecs⟩ : ∃ csA, csA = cs2 := ⟨_, rfl⟩
          obtain ⟨CA, eCA⟩ : ∃ CA, CA = Cd := ⟨_, rfl⟩
          obtain ⟨gsA, egs⟩ : ∃ gsA, gsA = gs := ⟨_, rfl⟩
          have hCA : Sts K GA cs2 Cd := hC.imp (fun _ _ z => sqt_chgS cA nt z)
          have datA := dat
          rw [← ecs] at hcmA
          rw [← egs] at hgnA
          rw [← ecs, ← eCA] at hCA
          rw [← eCA] at datA
          have lCA : CA.length ≤ j + 1 := by rw [eCA]; omega
          have lgA : gsA.length ≤ j + 1 := by rw [egs]; omega
          have iA : ∀ a xs, SqT K G3 a xs → SqT K GA a xs := fun _ _ z => sqt_chgS cA nt z
          refine ⟨_, rfl, _, rfl, Hd, _, _, _, rfl, rfl, SqL.of oHA, at1 rfl, _, rfl, _, t, _, _, rfl, hhv.imp iA, hDA, ?_⟩
          refine ⟨_, rfl, ?_⟩
          have lenLB : L.length ≤ j + 1 := by omega
          cases hf : freedB m (.giv x n') with
          | true =>
            refine iteT ?_
            refine ⟨Nat.zero_le _, ?_⟩
            intro e2 he2
            have s7 := same_upd (o := .lst []) he2
            have c7 := cA.new (o := .lst []) he2
            refine ⟨_, rfl, _, rfl, Sn, _, _, _, rfl, rfl, s7 _ _ oSA, rfl, ?_⟩
            obtain ⟨G8, hG8⟩ : ∃ G8, G8 = upd (upd GA e2 (.lst [])) Sn (.lst (pr1 (.ref e2) (.ref sn0))) := ⟨_, rfl⟩
            rw [← (show G8 = upd (upd GA e2 (.lst [])) Sn (.lst (List.set [.ref sn0, .ref sn1] (Int.toNat 1) (.ref e2))) from hG8)]
            have c8 : ChgS SS G3 G8 := by rw [hG8]; exact c7.put (mem (by simp))
            have vSn8 : G8 Sn = some (.lst (pr1 (.ref e2) (.ref sn0))) := by rw [hG8]; exact upd_same
            have k8 : ∀ {x : Addr} {o : HO}, x ≠ Sn → GA x = some o → G8 x = some o := fun n e => by rw [hG8, upd_ne n]; exact s7 _ _ e
            have ne2 : e2 ≠ Sn := (ne_of_none oSA he2).symm
            have ve2 : G8 e2 = some (.lst []) := by rw [hG8, upd_ne ne2]; exact upd_same
            have oH8 := k8 (nd_at ND 13 7) oHA
            have vLv8 := k8 (nd_at ND 10 7) vLvA
            have nlS : lv' ≠ Sn := by
              rcases nl with e1 | e1
              · rw [e1]; exact (nd_at ND 11 7)
              · exact (ne_of_none (s4 _ _ W3.oS) e1).symm
            have vlv8 := k8 nlS vlvA
            have iA8 : ∀ a xs, SqT K GA a xs → SqT K G8 a xs := fun _ _ z => by rw [hG8]; exact sqt_chg ⟨_, s7 _ _ oSA⟩ Chg.self (sqt_same s7 z)
            have hL8 : Sts K G8 ls' L := hLA.imp iA8
            have i8 : ∀ a xs, SqT K G3 a xs → SqT K G8 a xs := fun _ _ z => sqt_chgS c8 nt z
            have nlH : lv' ≠ Hd := by
              rcases nl with e1 | e1
              · rw [e1]; exact (nd_at ND 11 13)
              · exact (ne_of_none (s4 _ _ W3.oH) e1).symm
            refine ⟨_, rfl, _, rfl, Lv, _, _, _, rfl, rfl, SqL.of vLv8, at1 rfl, lv', ls', L, rfl, rfl, SqL.of vlv8, hL8, fun el => ?_, fun x nx hx hnx tx least => ?_⟩
            · skip
              refine ⟨_, rfl, _, rfl, Hd, _, _, _, rfl, rfl, oH8, rfl, ?_⟩
              obtain ⟨G9, hG9⟩ : ∃ G9, G9 = upd G8 Hd (.lst (pr1 V.non hv0)) := ⟨_, rfl⟩
              rw [← (show G9 = upd G8 Hd (.lst (List.set [hv0, hv1] (Int.toNat 1) V.non)) from hG9)]
              have c9 : ChgS SS G3 G9 := by rw [hG9]; exact c8.put (mem (by simp))
              have k9 : ∀ {x : Addr} {o : HO}, x ≠ Hd → G8 x = some o → G9 x = some o := fun n e => by rw [hG9, upd_ne n]; exact e
              have vHd9 : G9 Hd = some (.lst (pr1 V.non hv0)) := by rw [hG9]; exact upd_same
              have i89 : ∀ a xs, SqT K G8 a xs → SqT K G9 a xs := fun _ _ z => by rw [hG9]; exact sqt_chg ⟨_, oH8⟩ Chg.self z
              have ne2H : e2 ≠ Hd := fun z => by rw [z, s7 _ _ oHA |> fun _ => oHA] at he2; cases he2
              have vlv9 := k9 nlH vlv8
              have hL9 : Sts K G9 ls' L := hL8.imp i89
              refine ⟨_, rfl, _, rfl, Lv, _, _, _, rfl, rfl, SqL.of (k9 (nd_at ND 10 13) vLv8), at1 rfl, Nat.zero_le _, ?_⟩
              intro e3 he3
              have s10 := same_upd (o := .lst []) he3
              refine ⟨.list (L.map stD), .list [], .lst (SqL.of (s10 _ _ vlv9)) (hL9.imp fun a zs z => sqt_same s10 z).dps, .lst (SqL.of upd_same) .nil, shaped_lsts _, by decide, _, rfl, ?_⟩
              rw [eqv_nil]
              have mn : m = none := by
                cases hm : m with
                | none => rfl
                | some k =>
                  have := dat.mem k hm
                  rw [el] at this
                  exact absurd this List.not_mem_nil
              refine iteF' (by simp [el]) ?_
              obtain ⟨GB, hGB⟩ : ∃ GB, GB = upd G9 e3 (.lst []) := ⟨_, rfl⟩
              have sB : Same G9 GB := by rw [hGB]; exact s10
              have cB : ChgS SS G3 GB := by rw [hGB]; exact c9.new he3
              have hpB : GB p1 = some (.ins C dx1 (deskF h (.ref qa) b)) := sB _ _ (k9 (nd_at ND 15 13) (k8 (nd_at ND 15 7) hpA))
              have neS : e ≠ Sn := ne_of_none W3.oS he |> Ne.symm
              have neH : e ≠ Hd := ne_of_none W3.oH he |> Ne.symm
              have veB : GB e = some (.lst []) := sB _ _ (k9 neH (k8 neS veA))
              rw [← hGB]
              have iB : ∀ a xs, SqT K G3 a xs → SqT K GB a xs := fun _ _ z => sqt_chgS cB nt z
              have hDB : DeedAt K GB t _ := hD.imp iB
              have oDB := cB _ _ (notin (nd_at ND 14 15) (nd_at ND 14 13) (nd_at ND 14 10) (nd_at ND 14 7) (nd_at ND 14 8) (nd_at ND 14 5) (nd_at ND 14 2)) W3.oD
              have hqB := iB _ _ hq
              have hMB : Sts K GB ys M := hM.imp iB
              have hhB : HeldV K GB h m := hh.imp iB
              have holdB : HoldM K GB h M m := by
                rcases hhB with ⟨e1, e2⟩ | z
                · refine .inl ⟨e1, ?_, e2⟩
                  have d2 := dat
                  rw [e2] at d2
                  exact d2.mnone
                · exact .inr z
              have lenM : M.length < 63 := by
                have := dat.pm.length_eq
                have l2 := List.length_filter_le (fun k => !decide (m = some k)) L
                omega
              refine ⟨_, rfl, _, rfl, D, _, _, _, rfl, rfl, SqL.of oDB, at1 rfl, _, rfl, p1, t, dx1, h, .ref qa, b, _, rfl, hpB, hDB, ?_⟩
              refine ⟨p1, dx1, qa, x, h, b, ys, M, m, n', rfl, hpB, hqB, hMB, hDB.2, holdB, lenM, ?_⟩
              rw [if_neg (by rw [mn]; simp)]
              intro l6 H6 hl6 ch out
              obtain ⟨hl6v, q6, ys6, hq6, hM6, hp6'⟩ := out
              have c6' : ChgS SS G3 H6 := cB.trans (Chg.s ch (mem (by simp)))
              have iH : ∀ a xs, SqT K GB a xs → SqT K H6 a xs := fun _ _ z => sqt_chgI hpB ch z
              have i3H : ∀ a xs, SqT K G3 a xs → SqT K H6 a xs := fun _ _ z => sqt_chgS c6' nt z
              have nEp : e ≠ p1 := ne_of veB hpB (by intro z; cases z)
              have vEH := ch _ _ nEp veB
              refine ⟨_, rfl, _, _, rfl, .inr ⟨l6, e, [], [], [], 2, rfl, rfl, hl6v, vEH, .nil, .nil, rfl, by decide, fun _ z => absurd z List.not_mem_nil⟩, ?_⟩
              refine ⟨_, rfl, iteF' rfl ?_⟩
              have e2SS : e2 ∉ SS := notin (ne_of_none hpA he2).symm (ne_of_none oHA he2).symm (ne_of_none vLvA he2).symm (ne_of_none oSA he2).symm (ne_of_none hsnA he2).symm (ne_of_none hcmA he2).symm (ne_of_none hgnA he2).symm
              have e23 : G3 e2 = none := cA.back he2 e2SS
              have e2lv : e2 ≠ lv' := (ne_of_none vlvA he2).symm
              have nd1 : [l, Gn, gn1, gn0, Cm, cm1, cm0, Sn, sn1, sn0, Lv, lv', lv0, Hd, D, p1, p0].Nodup := by
                rcases nl with e1 | e1
                · rw [e1]; exact ND
                · exact nd_set 11 ND fun mm => all _ mm (by
                    cases z : G3 lv' with
                    | none => rfl
                    | some o => rw [s4 _ _ z] at e1; cases e1)
              have nd2 : [l, Gn, gn1, gn0, Cm, cm1, cm0, Sn, e2, sn0, Lv, lv', lv0, Hd, D, p1, p0].Nodup := nd_set 8 nd1 fun mm => by
                have mm' : e2 ∈ [l, Gn, gn1, gn0, Cm, cm1, cm0, Sn, sn1, sn0, Lv, lv1, lv0, Hd, D, p1, p0].set 11 lv' := mm
                rcases List.mem_or_eq_of_mem_set mm' with z | z
                · exact all _ z e23
                · exact e2lv z
              have lst_ne : ∀ {y : Addr} {zs : List V}, GB y = some (.lst zs) → y ≠ p1 := fun h => ne_of h hpB (by intro z; cases z)
              have vlvB := sB _ _ vlv9
              have vlvH := ch _ _ (lst_ne vlvB) vlvB
              have ve2B := sB _ _ (k9 ne2H ve2)
              have ve2H := ch _ _ (lst_ne ve2B) ve2B
              have vcmB := sB _ _ (k9 (nd_at ND 5 13) (k8 (nd_at ND 5 7) hcmA))
              have vcmH := ch _ _ (lst_ne vcmB) vcmB
              have vgnB := sB _ _ (k9 (nd_at ND 2 13) (k8 (nd_at ND 2 7) hgnA))
              have vgnH := ch _ _ (lst_ne vgnB) vgnB
              have oHH := ch _ _ (lst_ne (sB _ _ vHd9)) (sB _ _ vHd9)
              have oLH := ch _ _ (nd_at ND 10 15) (sB _ _ (k9 (nd_at ND 10 13) vLv8))
              have oSH := ch _ _ (nd_at ND 7 15) (sB _ _ (k9 (nd_at ND 7 13) vSn8))
              have hLH : Sts K H6 ls' L := hL9.imp fun a zs z => iH _ _ (sqt_same sB z)
              have hCH : Sts K H6 csA CA := hCA.imp fun a zs z => iH _ _ (sqt_same sB (i89 _ _ (iA8 _ _ z)))
              have dN : Dk K C H6 p1 dx1 .non lv' e2 cm1 gn1 (j + 1) := ⟨h, q6, b, ys6, ls', [], csA, M, L, [], CA, gsA, m, hp6', hh.imp i3H, .inl ⟨rfl, mn⟩, hq6, hM6, vlvH, hLH, ve2H, .nil, vcmH, hCH, vgnH,
                (by rw [hbz, zn mn]), datA, fun _ => rfl, lenLB, Nat.zero_le _, lCA, lgA⟩
              have hB := (W3.d0.next.chg c6' nt (notin (nd_at ND 16 15) (nd_at ND 16 13) (nd_at ND 16 10) (nd_at ND 16 7) (nd_at ND 16 8) (nd_at ND 16 5) (nd_at ND 16 2)) (notin (nd_at ND 12 15) (nd_at ND 12 13) (nd_at ND 12 10) (nd_at ND 12 7) (nd_at ND 12 8) (nd_at ND 12 5) (nd_at ND 12 2))
                (notin (nd_at ND 9 15) (nd_at ND 9 13) (nd_at ND 9 10) (nd_at ND 9 7) (nd_at ND 9 8) (nd_at ND 9 5) (nd_at ND 9 2)) (notin (nd_at ND 6 15) (nd_at ND 6 13) (nd_at ND 6 10) (nd_at ND 6 7) (nd_at ND 6 8) (nd_at ND 6 5) (nd_at ND 6 2))
                (notin (nd_at ND 3 15) (nd_at ND 3 13) (nd_at ND 3 10) (nd_at ND 3 7) (nd_at ND 3 8) (nd_at ND 3 5) (nd_at ND 3 2)))
              have WN : Wd K C H6 cs l D Hd Lv Sn Cm Gn p0 p1 dx0 dx1 hv0 _ lv0 lv' sn0 e2 cm0 cm1 gn0 gn1 (j + 1) := {
                nd := nd2
                ol := c6' _ _ (notin (nd_at ND 0 15) (nd_at ND 0 13) (nd_at ND 0 10) (nd_at ND 0 7) (nd_at ND 0 8) (nd_at ND 0 5) (nd_at ND 0 2)) W3.ol
                oD := c6' _ _ (notin (nd_at ND 14 15) (nd_at ND 14 13) (nd_at ND 14 10) (nd_at ND 14 7) (nd_at ND 14 8) (nd_at ND 14 5) (nd_at ND 14 2)) W3.oD
                oH := oHH
                oL := oLH
                oS := oSH
                oC := c6' _ _ (notin (nd_at ND 4 15) (nd_at ND 4 13) (nd_at ND 4 10) (nd_at ND 4 7) (nd_at ND 4 8) (nd_at ND 4 5) (nd_at ND 4 2)) W3.oC
                oG := c6' _ _ (notin (nd_at ND 1 15) (nd_at ND 1 13) (nd_at ND 1 10) (nd_at ND 1 7) (nd_at ND 1 8) (nd_at ND 1 5) (nd_at ND 1 2)) W3.oG
                d1 := dN
                d0 := hB }
              exact last_look WN j1 (fun σ' G' hσ s' => ⟨hσ, _, _, _, _, _, _, WN.same s'⟩)
            · skip
              refine ⟨_, rfl, _, rfl, Hd, _, _, _, rfl, rfl, oH8, rfl, ?_⟩
              obtain ⟨G9, hG9⟩ : ∃ G9, G9 = upd G8 Hd (.lst (pr1 x hv0)) := ⟨_, rfl⟩
              rw [← (show G9 = upd G8 Hd (.lst (List.set [hv0, hv1] (Int.toNat 1) x)) from hG9)]
              have c9 : ChgS SS G3 G9 := by rw [hG9]; exact c8.put (mem (by simp))
              have k9 : ∀ {x : Addr} {o : HO}, x ≠ Hd → G8 x = some o → G9 x = some o := fun n e => by rw [hG9, upd_ne n]; exact e
              have vHd9 : G9 Hd = some (.lst (pr1 x hv0)) := by rw [hG9]; exact upd_same
              have i89 : ∀ a xs, SqT K G8 a xs → SqT K G9 a xs := fun _ _ z => by rw [hG9]; exact sqt_chg ⟨_, oH8⟩ Chg.self z
              have ne2H : e2 ≠ Hd := fun z => by rw [z, s7 _ _ oHA |> fun _ => oHA] at he2; cases he2
              have vlv9 := k9 nlH vlv8
              have hL9 : Sts K G9 ls' L := hL8.imp i89
              refine ⟨_, rfl, _, rfl, Lv, _, _, _, rfl, rfl, SqL.of (k9 (nd_at ND 10 13) vLv8), at1 rfl, Nat.zero_le _, ?_⟩
              intro e3 he3
              have s10 := same_upd (o := .lst []) he3
              refine ⟨.list (L.map stD), .list [], .lst (SqL.of (s10 _ _ vlv9)) (hL9.imp fun a zs z => sqt_same s10 z).dps, .lst (SqL.of upd_same) .nil, shaped_lsts _, by decide, _, rfl, ?_⟩
              rw [eqv_nil]
              have mn : m = some n' := by
                cases hm : m with
                | none =>
                  have := dat.non hm
                  rw [this] at hnx
                  exact absurd hnx List.not_mem_nil
                | some k => rw [hm] at hf; simpa [freedB] using hf
              obtain ⟨tx', ex', zx'⟩ := id tx
              subst ex'
              refine iteT' (by rw [decide_eq_false (fun z => by rw [z] at hnx; exact List.not_mem_nil hnx)]; rfl) ?_
              refine ⟨_, rfl, _, rfl, Hd, _, _, _, rfl, rfl, SqL.of (s10 _ _ vHd9), at1 rfl, by show 2 ≤ sizeLine; decide, ?_⟩
              intro t2 ht2
              refine ⟨by show 1 ≤ sizeLine; decide, ?_⟩
              intro E2 hE2
              have s11 := s10.trans (same_upd (o := .tup [.str "vote", .ref tx']) ht2)
              have s12 := s11.trans (same_upd (o := .lst [.ref t2]) hE2)
              obtain ⟨GB, hGB⟩ : ∃ GB, GB = upd (upd (upd G9 e3 (.lst [])) t2 (.tup [.str "vote", .ref tx'])) E2 (.lst [.ref t2]) := ⟨_, rfl⟩
              have sB : Same G9 GB := by rw [hGB]; exact s12
              have vt2 : GB t2 = some (.tup [.str "vote", .ref tx']) := by rw [hGB]; exact same_upd hE2 _ _ upd_same
              have vE2 : GB E2 = some (.lst [.ref t2]) := by rw [hGB]; exact upd_same
              have cB : ChgS SS G3 GB := c9.trans (Same.s sB)
              have hpB : GB p1 = some (.ins C dx1 (deskF h (.ref qa) b)) := sB _ _ (k9 (nd_at ND 15 13) (k8 (nd_at ND 15 7) hpA))
              rw [← hGB]
              have snx : StN nx := hL8.st nx hnx
              have hxB : TupI K GB (.ref tx') nx := ⟨tx', rfl, sqt_same sB (i89 _ _ zx')⟩
              have iB : ∀ a xs, SqT K G3 a xs → SqT K GB a xs := fun _ _ z => sqt_chgS cB nt z
              have hDB : DeedAt K GB t _ := hD.imp iB
              have oDB := cB _ _ (notin (nd_at ND 14 15) (nd_at ND 14 13) (nd_at ND 14 10) (nd_at ND 14 7) (nd_at ND 14 8) (nd_at ND 14 5) (nd_at ND 14 2)) W3.oD
              have hqB := iB _ _ hq
              have hMB : Sts K GB ys M := hM.imp iB
              have hhB : HeldV K GB h m := hh.imp iB
              have holdB : HoldM K GB h M m := by
                rcases hhB with ⟨e1, e2⟩ | z
                · refine .inl ⟨e1, ?_, e2⟩
                  have d2 := dat
                  rw [e2] at d2
                  exact d2.mnone
                · exact .inr z
              have lenM : M.length < 63 := by
                have := dat.pm.length_eq
                have l2 := List.length_filter_le (fun k => !decide (m = some k)) L
                omega
              refine ⟨_, rfl, _, rfl, D, _, _, _, rfl, rfl, SqL.of oDB, at1 rfl, _, rfl, p1, t, dx1, h, .ref qa, b, _, rfl, hpB, hDB, ?_⟩
              refine ⟨p1, dx1, qa, _, h, b, ys, M, m, n', rfl, hpB, hqB, hMB, hDB.2, holdB, lenM, ?_⟩
              rw [if_pos mn]
              intro l6 H6 M1 hl6 pM1 upM1 ch out
              rw [mn] at datA
              have pL : M1.Perm L := pM1.trans datA.whole
              have ndL := datA.nd
              have subL := datA.sub
              rcases out with ⟨z, _⟩ | ⟨t6, x6, nx6, r6, M6, q6, eM1, hl6v, ht6, hx6, sx6, hq6, hM6, hp6'⟩
              · rw [z] at pL
                rw [List.Perm.eq_nil pL.symm] at hnx
                exact absurd hnx List.not_mem_nil
              rw [eM1] at pL upM1
              have enx := min_first pL upM1 (fun k hk => hL8.st k hk) hnx least
              subst enx
              have c6' : ChgS SS G3 H6 := cB.trans (Chg.s ch (mem (by simp)))
              have iH : ∀ a xs, SqT K GB a xs → SqT K H6 a xs := fun _ _ z => sqt_chgI hpB ch z
              have i3H : ∀ a xs, SqT K G3 a xs → SqT K H6 a xs := fun _ _ z => sqt_chgS c6' nt z
              have nEp : E2 ≠ p1 := ne_of vE2 hpB (by intro z; cases z)
              have vEH := ch _ _ nEp vE2
              have hxH : TupI K H6 (.ref tx') nx6 := by obtain ⟨_, e1, z⟩ := hxB; exact ⟨_, e1, iH _ _ z⟩
              refine ⟨_, rfl, _, _, rfl, .inr ⟨l6, E2, [.ref t6], [.ref t2], _, 2, rfl, rfl, hl6v, vEH, dp_due ht6 hx6, dp_due (iH _ _ (SqT.of vt2)) hxH, rfl, by show 1 < 10000; decide, lv_due _ (by rw [sx6.1]; decide)⟩, ?_⟩
              refine ⟨_, rfl, iteF' rfl ?_⟩
              have e2SS : e2 ∉ SS := notin (ne_of_none hpA he2).symm (ne_of_none oHA he2).symm (ne_of_none vLvA he2).symm (ne_of_none oSA he2).symm (ne_of_none hsnA he2).symm (ne_of_none hcmA he2).symm (ne_of_none hgnA he2).symm
              have e23 : G3 e2 = none := cA.back he2 e2SS
              have e2lv : e2 ≠ lv' := (ne_of_none vlvA he2).symm
              have nd1 : [l, Gn, gn1, gn0, Cm, cm1, cm0, Sn, sn1, sn0, Lv, lv', lv0, Hd, D, p1, p0].Nodup := by
                rcases nl with e1 | e1
                · rw [e1]; exact ND
                · exact nd_set 11 ND fun mm => all _ mm (by
                    cases z : G3 lv' with
                    | none => rfl
                    | some o => rw [s4 _ _ z] at e1; cases e1)
              have nd2 : [l, Gn, gn1, gn0, Cm, cm1, cm0, Sn, e2, sn0, Lv, lv', lv0, Hd, D, p1, p0].Nodup := nd_set 8 nd1 fun mm => by
                have mm' : e2 ∈ [l, Gn, gn1, gn0, Cm, cm1, cm0, Sn, sn1, sn0, Lv, lv1, lv0, Hd, D, p1, p0].set 11 lv' := mm
                rcases List.mem_or_eq_of_mem_set mm' with z | z
                · exact all _ z e23
                · exact e2lv z
              have lst_ne : ∀ {y : Addr} {zs : List V}, GB y = some (.lst zs) → y ≠ p1 := fun h => ne_of h hpB (by intro z; cases z)
              have vlvB := sB _ _ vlv9
              have vlvH := ch _ _ (lst_ne vlvB) vlvB
              have ve2B := sB _ _ (k9 ne2H ve2)
              have ve2H := ch _ _ (lst_ne ve2B) ve2B
              have vcmB := sB _ _ (k9 (nd_at ND 5 13) (k8 (nd_at ND 5 7) hcmA))
              have vcmH := ch _ _ (lst_ne vcmB) vcmB
              have vgnB := sB _ _ (k9 (nd_at ND 2 13) (k8 (nd_at ND 2 7) hgnA))
              have vgnH := ch _ _ (lst_ne vgnB) vgnB
              have oHH := ch _ _ (lst_ne (sB _ _ vHd9)) (sB _ _ vHd9)
              have oLH := ch _ _ (nd_at ND 10 15) (sB _ _ (k9 (nd_at ND 10 13) vLv8))
              have oSH := ch _ _ (nd_at ND 7 15) (sB _ _ (k9 (nd_at ND 7 13) vSn8))
              have hLH : Sts K H6 ls' L := hL9.imp fun a zs z => iH _ _ (sqt_same sB z)
              have hCH : Sts K H6 csA CA := hCA.imp fun a zs z => iH _ _ (sqt_same sB (i89 _ _ (iA8 _ _ z)))
              have dN : Dk K C H6 p1 dx1 (.ref tx') lv' e2 cm1 gn1 (j + 1) := ⟨.ref x6, q6, false, r6, ls', [], csA, M6, L, [], CA, gsA, some nx6, hp6', .inr ⟨x6, nx6, rfl, hx6, sx6, rfl⟩, .inr ⟨tx', nx6, rfl, hxH, sx6, rfl⟩, hq6, hM6, vlvH, hLH, ve2H, .nil, vcmH, hCH, vgnH,
                (by simp), Dat.first ndL pL upM1 subL, (fun z => by cases z), lenLB, Nat.zero_le _, lCA, lgA⟩
              have hB := (W3.d0.next.chg c6' nt (notin (nd_at ND 16 15) (nd_at ND 16 13) (nd_at ND 16 10) (nd_at ND 16 7) (nd_at ND 16 8) (nd_at ND 16 5) (nd_at ND 16 2)) (notin (nd_at ND 12 15) (nd_at ND 12 13) (nd_at ND 12 10) (nd_at ND 12 7) (nd_at ND 12 8) (nd_at ND 12 5) (nd_at ND 12 2))
                (notin (nd_at ND 9 15) (nd_at ND 9 13) (nd_at ND 9 10) (nd_at ND 9 7) (nd_at ND 9 8) (nd_at ND 9 5) (nd_at ND 9 2)) (notin (nd_at ND 6 15) (nd_at ND 6 13) (nd_at ND 6 10) (nd_at ND 6 7) (nd_at ND 6 8) (nd_at ND 6 5) (nd_at ND 6 2))
                (notin (nd_at ND 3 15) (nd_at ND 3 13) (nd_at ND 3 10) (nd_at ND 3 7) (nd_at ND 3 8) (nd_at ND 3 5) (nd_at ND 3 2)))
              have WN : Wd K C H6 cs l D Hd Lv Sn Cm Gn p0 p1 dx0 dx1 hv0 _ lv0 lv' sn0 e2 cm0 cm1 gn0 gn1 (j + 1) := {
                nd := nd2
                ol := c6' _ _ (notin (nd_at ND 0 15) (nd_at ND 0 13) (nd_at ND 0 10) (nd_at ND 0 7) (nd_at ND 0 8) (nd_at ND 0 5) (nd_at ND 0 2)) W3.ol
                oD := c6' _ _ (notin (nd_at ND 14 15) (nd_at ND 14 13) (nd_at ND 14 10) (nd_at ND 14 7) (nd_at ND 14 8) (nd_at ND 14 5) (nd_at ND 14 2)) W3.oD
                oH := oHH
                oL := oLH
                oS := oSH
                oC := c6' _ _ (notin (nd_at ND 4 15) (nd_at ND 4 13) (nd_at ND 4 10) (nd_at ND 4 7) (nd_at ND 4 8) (nd_at ND 4 5) (nd_at ND 4 2)) W3.oC
                oG := c6' _ _ (notin (nd_at ND 1 15) (nd_at ND 1 13) (nd_at ND 1 10) (nd_at ND 1 7) (nd_at ND 1 8) (nd_at ND 1 5) (nd_at ND 1 2)) W3.oG
                d1 := dN
                d0 := hB }
              exact last_look WN j1 (fun σ' G' hσ s' => ⟨hσ, _, _, _, _, _, _, WN.same s'⟩)
          | false =>
            skip
            refine iteF ?_
            refine ⟨_, rfl, t, _, _, _, rfl, rfl, hDA.1, at0 rfl, rfl, _, rfl, ?_⟩
            rw [dec_str]
            refine iteF' (by decide +kernel) ?_
            obtain ⟨GB, hGB⟩ : ∃ GB, GB = GA := ⟨_, rfl⟩
            have cB := cA; have hpB := hpA; have veB := veA
            rw [← hGB] at cB hpB veB
            rw [← hGB]
            have iB : ∀ a xs, SqT K G3 a xs → SqT K GB a xs := fun _ _ z => sqt_chgS cB nt z
            have hDB : DeedAt K GB t _ := hD.imp iB
            have oDB := cB _ _ (notin (nd_at ND 14 15) (nd_at ND 14 13) (nd_at ND 14 10) (nd_at ND 14 7) (nd_at ND 14 8) (nd_at ND 14 5) (nd_at ND 14 2)) W3.oD
            have hqB := iB _ _ hq
            have hMB : Sts K GB ys M := hM.imp iB
            have hhB : HeldV K GB h m := hh.imp iB
            have holdB : HoldM K GB h M m := by
              rcases hhB with ⟨e1, e2⟩ | z
              · refine .inl ⟨e1, ?_, e2⟩
                have d2 := dat
                rw [e2] at d2
                exact d2.mnone
              · exact .inr z
            have lenM : M.length < 63 := by
              have := dat.pm.length_eq
              have l2 := List.length_filter_le (fun k => !decide (m = some k)) L
              omega
            refine ⟨_, rfl, _, rfl, D, _, _, _, rfl, rfl, SqL.of oDB, at1 rfl, _, rfl, p1, t, dx1, h, .ref qa, b, _, rfl, hpB, hDB, ?_⟩
            have mne : m ≠ some n' := fun z => by rw [z] at hf; simp [freedB] at hf
            refine ⟨p1, dx1, qa, x, h, b, ys, M, m, n', rfl, hpB, hqB, hMB, hDB.2, holdB, lenM, ?_⟩
            rw [if_neg mne]
            intro l6 H6 hl6 ch out
            obtain ⟨hl6v, q6, ys6, hq6, hM6, hp6'⟩ := out
            have datN := datA
            have c6' : ChgS SS G3 H6 := cB.trans (Chg.s ch (mem (by simp)))
            have iH : ∀ a xs, SqT K GB a xs → SqT K H6 a xs := fun _ _ z => sqt_chgI hpB ch z
            have i3H : ∀ a xs, SqT K G3 a xs → SqT K H6 a xs := fun _ _ z => sqt_chgS c6' nt z
            have nEp : e ≠ p1 := ne_of veB hpB (by intro z; cases z)
            have vEH := ch _ _ nEp veB
            refine ⟨_, rfl, _, _, rfl, .inr ⟨l6, e, [], [], [], 2, rfl, rfl, hl6v, vEH, .nil, .nil, rfl, by decide, fun _ z => absurd z List.not_mem_nil⟩, ?_⟩
            refine ⟨_, rfl, iteF' rfl ?_⟩
            have nd1 : [l, Gn, gn1, gn0, Cm, cm1, cm0, Sn, sn1, sn0, Lv, lv', lv0, Hd, D, p1, p0].Nodup := by
              rcases nl with e1 | e1
              · rw [e1]; exact ND
              · exact nd_set 11 ND fun mm => all _ mm (by
                  cases z : G3 lv' with
                  | none => rfl
                  | some o => rw [s4 _ _ z] at e1; cases e1)
            have nd2 := nd1
            have lst_ne : ∀ {y : Addr} {zs : List V}, GB y = some (.lst zs) → y ≠ p1 := fun h => ne_of h hpB (by intro z; cases z)
            rw [← hGB] at vlvA hsnA hcmA hgnA oHA oSA vLvA
            have vlvH := ch _ _ (lst_ne vlvA) vlvA
            have vsnH := ch _ _ (lst_ne hsnA) hsnA
            have vcmH := ch _ _ (lst_ne hcmA) hcmA
            have vgnH := ch _ _ (lst_ne hgnA) hgnA
            have oHH := ch _ _ (nd_at ND 13 15) oHA
            have oLH := ch _ _ (nd_at ND 10 15) vLvA
            have oSH := ch _ _ (nd_at ND 7 15) oSA
            rw [← hGB] at hLA hCA
            have hLH : Sts K H6 ls' L := hLA.imp iH
            have hCH : Sts K H6 csA CA := hCA.imp iH
            have dN : Dk K C H6 p1 dx1 hv1 lv' sn1 cm1 gn1 (j + 1) := ⟨h, q6, b, ys6, ls', zs, csA, M, L, Z, CA, gsA, m, hp6', hh.imp i3H, hhv.imp i3H, hq6, hM6, vlvH, hLH, vsnH, hZ.imp i3H, vcmH, hCH, vgnH,
              hbz, datN, zn, lenLB, by omega, lCA, lgA⟩
            have hB := (W3.d0.next.chg c6' nt (notin (nd_at ND 16 15) (nd_at ND 16 13) (nd_at ND 16 10) (nd_at ND 16 7) (nd_at ND 16 8) (nd_at ND 16 5) (nd_at ND 16 2)) (notin (nd_at ND 12 15) (nd_at ND 12 13) (nd_at ND 12 10) (nd_at ND 12 7) (nd_at ND 12 8) (nd_at ND 12 5) (nd_at ND 12 2))
              (notin (nd_at ND 9 15) (nd_at ND 9 13) (nd_at ND 9 10) (nd_at ND 9 7) (nd_at ND 9 8) (nd_at ND 9 5) (nd_at ND 9 2)) (notin (nd_at ND 6 15) (nd_at ND 6 13) (nd_at ND 6 10) (nd_at ND 6 7) (nd_at ND 6 8) (nd_at ND 6 5) (nd_at ND 6 2))
              (notin (nd_at ND 3 15) (nd_at ND 3 13) (nd_at ND 3 10) (nd_at ND 3 7) (nd_at ND 3 8) (nd_at ND 3 5) (nd_at ND 3 2)))
            have WN : Wd K C H6 cs l D Hd Lv Sn Cm Gn p0 p1 dx0 dx1 hv0 hv1 lv0 lv' sn0 sn1 cm0 cm1 gn0 gn1 (j + 1) := {
              nd := nd2
              ol := c6' _ _ (notin (nd_at ND 0 15) (nd_at ND 0 13) (nd_at ND 0 10) (nd_at ND 0 7) (nd_at ND 0 8) (nd_at ND 0 5) (nd_at ND 0 2)) W3.ol
              oD := c6' _ _ (notin (nd_at ND 14 15) (nd_at ND 14 13) (nd_at ND 14 10) (nd_at ND 14 7) (nd_at ND 14 8) (nd_at ND 14 5) (nd_at ND 14 2)) W3.oD
              oH := oHH
              oL := oLH
              oS := oSH
              oC := c6' _ _ (notin (nd_at ND 4 15) (nd_at ND 4 13) (nd_at ND 4 10) (nd_at ND 4 7) (nd_at ND 4 8) (nd_at ND 4 5) (nd_at ND 4 2)) W3.oC
              oG := c6' _ _ (notin (nd_at ND 1 15) (nd_at ND 1 13) (nd_at ND 1 10) (nd_at ND 1 7) (nd_at ND 1 8) (nd_at ND 1 5) (nd_at ND 1 2)) W3.oG
              d1 := dN
              d0 := hB }
            exact last_look WN j1 (fun σ' G' hσ s' => ⟨hσ, _, _, _, _, _, _, WN.same s'⟩)
        | don x9 n' =>
          refine ⟨_, rfl, t, _, _, _, rfl, rfl, hD6.1, at0 rfl, rfl, _, rfl, ?_⟩
          rw [dec_str]
          refine iteF' (by decide +kernel) ?_
          refine ⟨_, rfl, t, _, _, _, rfl, rfl, hD6.1, at0 rfl, rfl, _, rfl, ?_⟩
          rw [dec_str]
          refine iteF' (by decide +kernel) ?_
          obtain ⟨GA, hGA⟩ : ∃ GA, GA = G6 := ⟨_, rfl⟩
          have cA := c6; have vLvA := vLv; have vlvA := vlv'; have hLA := hL6; have hDA := hD6; have oHA := k6 (nd_at ND 13 10) W3.oH; have oSA := k6 (nd_at ND 7 10) W3.oS; have veA := ve6; have hpA := hp6; have hsnA := k6 (nd_at ND 8 10) hsn; have hcmA := k6 (nd_at ND 5 10) hcm; have hgnA := k6 (nd_at ND 2 10) hgn
          rw [← hGA] at cA vLvA vlvA hLA hDA oHA oSA veA hpA hsnA hcmA hgnA
          rw [← hGA]
          obtain ⟨csA, ecs⟩ : ∃ csA, csA = cs2 := ⟨_, rfl⟩
          obtain ⟨CA, eCA⟩ : ∃ CA, CA = Cd := ⟨_, rfl⟩
          obtain ⟨gsA, egs⟩ : ∃ gsA, gsA = gs := ⟨_, rfl⟩
          have hCA : Sts K GA cs2 Cd := hC.imp (fun _ _ z => sqt_chgS cA nt z)
          have datA := dat
          rw [← ecs] at hcmA
          rw [← egs] at hgnA
          rw [← ecs, ← eCA] at hCA
          rw [← eCA] at datA
          have lCA : CA.length ≤ j + 1 := by rw [eCA]; omega
          have lgA : gsA.length ≤ j + 1 := by rw [egs]; omega
          have iA : ∀ a xs, SqT K G3 a xs → SqT K GA a xs := fun _ _ z => sqt_chgS cA nt z
          refine ⟨_, rfl, _, rfl, Hd, _, _, _, rfl, rfl, SqL.of oHA, at1 rfl, _, rfl, _, t, _, _, rfl, hhv.imp iA, hDA, ?_⟩
          refine ⟨_, rfl, ?_⟩
          have lenLB : ((L.filter fun k => !decide (k = n'))).length ≤ j + 1 := Nat.le_trans (List.length_filter_le _ _) (by omega)
          have datF : ∀ k, m = some k → (fun k => !decide (k = n')) k = true → Dat (L.filter fun k => !decide (k = n')) (M.filter fun k => !decide (k = n')) m CA := fun k e1 e2 => by
            have d2 := datA
            rw [e1] at d2 ⊢
            exact d2.keep (fun k => !decide (k = n')) e2
          cases hf : freedB m (.don x9 n') with
          | true =>
            refine iteT ?_
            refine ⟨Nat.zero_le _, ?_⟩
            intro e2 he2
            have s7 := same_upd (o := .lst []) he2
            have c7 := cA.new (o := .lst []) he2
            refine ⟨_, rfl, _, rfl, Sn, _, _, _, rfl, rfl, s7 _ _ oSA, rfl, ?_⟩
            obtain ⟨G8, hG8⟩ : ∃ G8, G8 = upd (upd GA e2 (.lst [])) Sn (.lst (pr1 (.ref e2) (.ref sn0))) := ⟨_, rfl⟩
            rw [← (show G8 = upd (upd GA e2 (.lst [])) Sn (.lst (List.set [.ref sn0, .ref sn1] (Int.toNat 1) (.ref e2))) from hG8)]
            have c8 : ChgS SS G3 G8 := by rw [hG8]; exact c7.put (mem (by simp))
            have vSn8 : G8 Sn = some (.lst (pr1 (.ref e2) (.ref sn0))) := by rw [hG8]; exact upd_same
            have k8 : ∀ {x : Addr} {o : HO}, x ≠ Sn → GA x = some o → G8 x = some o := fun n e => by rw [hG8, upd_ne n]; exact s7 _ _ e
            have ne2 : e2 ≠ Sn := (ne_of_none oSA he2).symm
            have ve2 : G8 e2 = some (.lst []) := by rw [hG8, upd_ne ne2]; exact upd_same
            have oH8 := k8 (nd_at ND 13 7) oHA
            have vLv8 := k8 (nd_at ND 10 7) vLvA
            have nlS : lv' ≠ Sn := by
              rcases nl with e1 | e1
              · rw [e1]; exact (nd_at ND 11 7)
              · exact (ne_of_none (s4 _ _ W3.oS) e1).symm
            have vlv8 := k8 nlS vlvA
            have iA8 : ∀ a xs, SqT K GA a xs → SqT K G8 a xs := fun _ _ z => by rw [hG8]; exact sqt_chg ⟨_, s7 _ _ oSA⟩ Chg.self (sqt_same s7 z)
            have hL8 : Sts K G8 ls' (L.filter fun k => !decide (k = n')) := hLA.imp iA8
            have i8 : ∀ a xs, SqT K G3 a xs → SqT K G8 a xs := fun _ _ z => sqt_chgS c8 nt z
            have nlH : lv' ≠ Hd := by
              rcases nl with e1 | e1
              · rw [e1]; exact (nd_at ND 11 13)
              · exact (ne_of_none (s4 _ _ W3.oH) e1).symm
            refine ⟨_, rfl, _, rfl, Lv, _, _, _, rfl, rfl, SqL.of vLv8, at1 rfl, lv', ls', (L.filter fun k => !decide (k = n')), rfl, rfl, SqL.of vlv8, hL8, fun el => ?_, fun x nx hx hnx tx least => ?_⟩
            · skip
              refine ⟨_, rfl, _, rfl, Hd, _, _, _, rfl, rfl, oH8, rfl, ?_⟩
              obtain ⟨G9, hG9⟩ : ∃ G9, G9 = upd G8 Hd (.lst (pr1 V.non hv0)) := ⟨_, rfl⟩
              rw [← (show G9 = upd G8 Hd (.lst (List.set [hv0, hv1] (Int.toNat 1) V.non)) from hG9)]
              have c9 : ChgS SS G3 G9 := by rw [hG9]; exact c8.put (mem (by simp))
              have k9 : ∀ {x : Addr} {o : HO}, x ≠ Hd → G8 x = some o → G9 x = some o := fun n e => by rw [hG9, upd_ne n]; exact e
              have vHd9 : G9 Hd = some (.lst (pr1 V.non hv0)) := by rw [hG9]; exact upd_same
              have i89 : ∀ a xs, SqT K G8 a xs → SqT K G9 a xs := fun _ _ z => by rw [hG9]; exact sqt_chg ⟨_, oH8⟩ Chg.self z
              have ne2H : e2 ≠ Hd := fun z => by rw [z, s7 _ _ oHA |> fun _ => oHA] at he2; cases he2
              have vlv9 := k9 nlH vlv8
              have hL9 : Sts K G9 ls' (L.filter fun k => !decide (k = n')) := hL8.imp i89
              refine ⟨_, rfl, _, rfl, Lv, _, _, _, rfl, rfl, SqL.of (k9 (nd_at ND 10 13) vLv8), at1 rfl, Nat.zero_le _, ?_⟩
              intro e3 he3
              have s10 := same_upd (o := .lst []) he3
              refine ⟨.list ((L.filter fun k => !decide (k = n')).map stD), .list [], .lst (SqL.of (s10 _ _ vlv9)) (hL9.imp fun a zs z => sqt_same s10 z).dps, .lst (SqL.of upd_same) .nil, shaped_lsts _, by decide, _, rfl, ?_⟩
              rw [eqv_nil]
              refine iteF' (by simp [el]) ?_
              obtain ⟨GB, hGB⟩ : ∃ GB, GB = upd G9 e3 (.lst []) := ⟨_, rfl⟩
              have sB : Same G9 GB := by rw [hGB]; exact s10
              have cB : ChgS SS G3 GB := by rw [hGB]; exact c9.new he3
              have hpB : GB p1 = some (.ins C dx1 (deskF h (.ref qa) b)) := sB _ _ (k9 (nd_at ND 15 13) (k8 (nd_at ND 15 7) hpA))
              have neS : e ≠ Sn := ne_of_none W3.oS he |> Ne.symm
              have neH : e ≠ Hd := ne_of_none W3.oH he |> Ne.symm
              have veB : GB e = some (.lst []) := sB _ _ (k9 neH (k8 neS veA))
              rw [← hGB]
              have iB : ∀ a xs, SqT K G3 a xs → SqT K GB a xs := fun _ _ z => sqt_chgS cB nt z
              have hDB : DeedAt K GB t _ := hD.imp iB
              have oDB := cB _ _ (notin (nd_at ND 14 15) (nd_at ND 14 13) (nd_at ND 14 10) (nd_at ND 14 7) (nd_at ND 14 8) (nd_at ND 14 5) (nd_at ND 14 2)) W3.oD
              have hqB := iB _ _ hq
              have hMB : Sts K GB ys M := hM.imp iB
              have hhB : HeldV K GB h m := hh.imp iB
              have holdB : HoldM K GB h M m := by
                rcases hhB with ⟨e1, e2⟩ | z
                · refine .inl ⟨e1, ?_, e2⟩
                  have d2 := dat
                  rw [e2] at d2
                  exact d2.mnone
                · exact .inr z
              have lenM : M.length < 63 := by
                have := dat.pm.length_eq
                have l2 := List.length_filter_le (fun k => !decide (m = some k)) L
                omega
              refine ⟨_, rfl, _, rfl, D, _, _, _, rfl, rfl, SqL.of oDB, at1 rfl, _, rfl, p1, t, dx1, h, .ref qa, b, _, rfl, hpB, hDB, ?_⟩
              by_cases mn : m = none
              · refine ⟨p1, dx1, qa, x9, h, b, ys, M, m, n', rfl, hpB, hqB, hMB, hDB.2, holdB, lenM, ?_⟩
                rw [if_neg (by rw [mn]; simp [isSeat])]
                intro l6 H6 hl6 ch out
                obtain ⟨hl6v, q6, ys6, hq6, hM6, hp6'⟩ := out
                have c6' : ChgS SS G3 H6 := cB.trans (Chg.s ch (mem (by simp)))
                have iH : ∀ a xs, SqT K GB a xs → SqT K H6 a xs := fun _ _ z => sqt_chgI hpB ch z
                have i3H : ∀ a xs, SqT K G3 a xs → SqT K H6 a xs := fun _ _ z => sqt_chgS c6' nt z
                have nEp : e ≠ p1 := ne_of veB hpB (by intro z; cases z)
                have vEH := ch _ _ nEp veB
                refine ⟨_, rfl, _, _, rfl, .inr ⟨l6, e, [], [], [], 2, rfl, rfl, hl6v, vEH, .nil, .nil, rfl, by decide, fun _ z => absurd z List.not_mem_nil⟩, ?_⟩
                refine ⟨_, rfl, iteF' rfl ?_⟩
                have e2SS : e2 ∉ SS := notin (ne_of_none hpA he2).symm (ne_of_none oHA he2).symm (ne_of_none vLvA he2).symm (ne_of_none oSA he2).symm (ne_of_none hsnA he2).symm (ne_of_none hcmA he2).symm (ne_of_none hgnA he2).symm
                have e23 : G3 e2 = none := cA.back he2 e2SS
                have e2lv : e2 ≠ lv' := (ne_of_none vlvA he2).symm
                have nd1 : [l, Gn, gn1, gn0, Cm, cm1, cm0, Sn, sn1, sn0, Lv, lv', lv0, Hd, D, p1, p0].Nodup := by
                  rcases nl with e1 | e1
                  · rw [e1]; exact ND
                  · exact nd_set 11 ND fun mm => all _ mm (by
                      cases z : G3 lv' with
                      | none => rfl
                      | some o => rw [s4 _ _ z] at e1; cases e1)
                have nd2 : [l, Gn, gn1, gn0, Cm, cm1, cm0, Sn, e2, sn0, Lv, lv', lv0, Hd, D, p1, p0].Nodup := nd_set 8 nd1 fun mm => by
                  have mm' : e2 ∈ [l, Gn, gn1, gn0, Cm, cm1, cm0, Sn, sn1, sn0, Lv, lv1, lv0, Hd, D, p1, p0].set 11 lv' := mm
                  rcases List.mem_or_eq_of_mem_set mm' with z | z
                  · exact all _ z e23
                  · exact e2lv z
                have lst_ne : ∀ {y : Addr} {zs : List V}, GB y = some (.lst zs) → y ≠ p1 := fun h => ne_of h hpB (by intro z; cases z)
                have vlvB := sB _ _ vlv9
                have vlvH := ch _ _ (lst_ne vlvB) vlvB
                have ve2B := sB _ _ (k9 ne2H ve2)
                have ve2H := ch _ _ (lst_ne ve2B) ve2B
                have vcmB := sB _ _ (k9 (nd_at ND 5 13) (k8 (nd_at ND 5 7) hcmA))
                have vcmH := ch _ _ (lst_ne vcmB) vcmB
                have vgnB := sB _ _ (k9 (nd_at ND 2 13) (k8 (nd_at ND 2 7) hgnA))
                have vgnH := ch _ _ (lst_ne vgnB) vgnB
                have oHH := ch _ _ (lst_ne (sB _ _ vHd9)) (sB _ _ vHd9)
                have oLH := ch _ _ (nd_at ND 10 15) (sB _ _ (k9 (nd_at ND 10 13) vLv8))
                have oSH := ch _ _ (nd_at ND 7 15) (sB _ _ (k9 (nd_at ND 7 13) vSn8))
                have hLH : Sts K H6 ls' (L.filter fun k => !decide (k = n')) := hL9.imp fun a zs z => iH _ _ (sqt_same sB z)
                have hCH : Sts K H6 csA CA := hCA.imp fun a zs z => iH _ _ (sqt_same sB (i89 _ _ (iA8 _ _ z)))
                have datN : Dat (L.filter fun k => !decide (k = n')) (M.filter fun k => !decide (k = n')) m CA := by
                  have d2 := datA
                  rw [mn] at d2 ⊢
                  rw [d2.non rfl, d2.mnone]
                  exact Dat.empty
                have dN : Dk K C H6 p1 dx1 .non lv' e2 cm1 gn1 (j + 1) := ⟨h, q6, b, ys6, ls', [], csA, (M.filter fun k => !decide (k = n')), (L.filter fun k => !decide (k = n')), [], CA, gsA, m, hp6', hh.imp i3H, .inl ⟨rfl, mn⟩, hq6, hM6, vlvH, hLH, ve2H, .nil, vcmH, hCH, vgnH,
                  (by rw [hbz, zn mn]), datN, fun _ => rfl, lenLB, Nat.zero_le _, lCA, lgA⟩
                have hB := (W3.d0.next.chg c6' nt (notin (nd_at ND 16 15) (nd_at ND 16 13) (nd_at ND 16 10) (nd_at ND 16 7) (nd_at ND 16 8) (nd_at ND 16 5) (nd_at ND 16 2)) (notin (nd_at ND 12 15) (nd_at ND 12 13) (nd_at ND 12 10) (nd_at ND 12 7) (nd_at ND 12 8) (nd_at ND 12 5) (nd_at ND 12 2))
                  (notin (nd_at ND 9 15) (nd_at ND 9 13) (nd_at ND 9 10) (nd_at ND 9 7) (nd_at ND 9 8) (nd_at ND 9 5) (nd_at ND 9 2)) (notin (nd_at ND 6 15) (nd_at ND 6 13) (nd_at ND 6 10) (nd_at ND 6 7) (nd_at ND 6 8) (nd_at ND 6 5) (nd_at ND 6 2))
                  (notin (nd_at ND 3 15) (nd_at ND 3 13) (nd_at ND 3 10) (nd_at ND 3 7) (nd_at ND 3 8) (nd_at ND 3 5) (nd_at ND 3 2)))
                have WN : Wd K C H6 cs l D Hd Lv Sn Cm Gn p0 p1 dx0 dx1 hv0 _ lv0 lv' sn0 e2 cm0 cm1 gn0 gn1 (j + 1) := {
                  nd := nd2
                  ol := c6' _ _ (notin (nd_at ND 0 15) (nd_at ND 0 13) (nd_at ND 0 10) (nd_at ND 0 7) (nd_at ND 0 8) (nd_at ND 0 5) (nd_at ND 0 2)) W3.ol
                  oD := c6' _ _ (notin (nd_at ND 14 15) (nd_at ND 14 13) (nd_at ND 14 10) (nd_at ND 14 7) (nd_at ND 14 8) (nd_at ND 14 5) (nd_at ND 14 2)) W3.oD
                  oH := oHH
                  oL := oLH
                  oS := oSH
                  oC := c6' _ _ (notin (nd_at ND 4 15) (nd_at ND 4 13) (nd_at ND 4 10) (nd_at ND 4 7) (nd_at ND 4 8) (nd_at ND 4 5) (nd_at ND 4 2)) W3.oC
                  oG := c6' _ _ (notin (nd_at ND 1 15) (nd_at ND 1 13) (nd_at ND 1 10) (nd_at ND 1 7) (nd_at ND 1 8) (nd_at ND 1 5) (nd_at ND 1 2)) W3.oG
                  d1 := dN
                  d0 := hB }
                exact last_look WN j1 (fun σ' G' hσ s' => ⟨hσ, _, _, _, _, _, _, WN.same s'⟩)
              · have pos := don_pos hf mn
                refine ⟨p1, dx1, qa, x9, h, b, ys, M, m, n', rfl, hpB, hqB, hMB, hDB.2, holdB, lenM, ?_⟩
                rw [if_pos pos]
                intro l6 H6 hl6 ch out
                have pL := done_perm datA pos
                rw [el] at pL
                have eM := List.Perm.eq_nil pL
                rw [eM] at out
                rcases out with ⟨_, hl6v, q6, hq6, hp6'⟩ | ⟨_, _, _, _, _, _, z, _⟩
                · skip
                  have c6' : ChgS SS G3 H6 := cB.trans (Chg.s ch (mem (by simp)))
                  have iH : ∀ a xs, SqT K GB a xs → SqT K H6 a xs := fun _ _ z => sqt_chgI hpB ch z
                  have i3H : ∀ a xs, SqT K G3 a xs → SqT K H6 a xs := fun _ _ z => sqt_chgS c6' nt z
                  have nEp : e ≠ p1 := ne_of veB hpB (by intro z; cases z)
                  have vEH := ch _ _ nEp veB
                  refine ⟨_, rfl, _, _, rfl, .inr ⟨l6, e, [], [], [], 2, rfl, rfl, hl6v, vEH, .nil, .nil, rfl, by decide, fun _ z => absurd z List.not_mem_nil⟩, ?_⟩
                  refine ⟨_, rfl, iteF' rfl ?_⟩
                  have e2SS : e2 ∉ SS := notin (ne_of_none hpA he2).symm (ne_of_none oHA he2).symm (ne_of_none vLvA he2).symm (ne_of_none oSA he2).symm (ne_of_none hsnA he2).symm (ne_of_none hcmA he2).symm (ne_of_none hgnA he2).symm
                  have e23 : G3 e2 = none := cA.back he2 e2SS
                  have e2lv : e2 ≠ lv' := (ne_of_none vlvA he2).symm
                  have nd1 : [l, Gn, gn1, gn0, Cm, cm1, cm0, Sn, sn1, sn0, Lv, lv', lv0, Hd, D, p1, p0].Nodup := by
                    rcases nl with e1 | e1
                    · rw [e1]; exact ND
                    · exact nd_set 11 ND fun mm => all _ mm (by
                        cases z : G3 lv' with
                        | none => rfl
                        | some o => rw [s4 _ _ z] at e1; cases e1)
                  have nd2 : [l, Gn, gn1, gn0, Cm, cm1, cm0, Sn, e2, sn0, Lv, lv', lv0, Hd, D, p1, p0].Nodup := nd_set 8 nd1 fun mm => by
                    have mm' : e2 ∈ [l, Gn, gn1, gn0, Cm, cm1, cm0, Sn, sn1, sn0, Lv, lv1, lv0, Hd, D, p1, p0].set 11 lv' := mm
                    rcases List.mem_or_eq_of_mem_set mm' with z | z
                    · exact all _ z e23
                    · exact e2lv z
                  have lst_ne : ∀ {y : Addr} {zs : List V}, GB y = some (.lst zs) → y ≠ p1 := fun h => ne_of h hpB (by intro z; cases z)
                  have vlvB := sB _ _ vlv9
                  have vlvH := ch _ _ (lst_ne vlvB) vlvB
                  have ve2B := sB _ _ (k9 ne2H ve2)
                  have ve2H := ch _ _ (lst_ne ve2B) ve2B
                  have vcmB := sB _ _ (k9 (nd_at ND 5 13) (k8 (nd_at ND 5 7) hcmA))
                  have vcmH := ch _ _ (lst_ne vcmB) vcmB
                  have vgnB := sB _ _ (k9 (nd_at ND 2 13) (k8 (nd_at ND 2 7) hgnA))
                  have vgnH := ch _ _ (lst_ne vgnB) vgnB
                  have oHH := ch _ _ (lst_ne (sB _ _ vHd9)) (sB _ _ vHd9)
                  have oLH := ch _ _ (nd_at ND 10 15) (sB _ _ (k9 (nd_at ND 10 13) vLv8))
                  have oSH := ch _ _ (nd_at ND 7 15) (sB _ _ (k9 (nd_at ND 7 13) vSn8))
                  have hLH : Sts K H6 ls' (L.filter fun k => !decide (k = n')) := hL9.imp fun a zs z => iH _ _ (sqt_same sB z)
                  have hCH : Sts K H6 csA CA := hCA.imp fun a zs z => iH _ _ (sqt_same sB (i89 _ _ (iA8 _ _ z)))
                  have datN : Dat (L.filter fun k => !decide (k = n')) [] none CA := by rw [el]; exact Dat.empty
                  have dN : Dk K C H6 p1 dx1 .non lv' e2 cm1 gn1 (j + 1) := ⟨.non, q6, false, [], ls', [], csA, [], (L.filter fun k => !decide (k = n')), [], CA, gsA, none, hp6', .inl ⟨rfl, rfl⟩, .inl ⟨rfl, rfl⟩, hq6, .nil, vlvH, hLH, ve2H, .nil, vcmH, hCH, vgnH,
                    (by simp), datN, fun _ => rfl, lenLB, Nat.zero_le _, lCA, lgA⟩
                  have hB := (W3.d0.next.chg c6' nt (notin (nd_at ND 16 15) (nd_at ND 16 13) (nd_at ND 16 10) (nd_at ND 16 7) (nd_at ND 16 8) (nd_at ND 16 5) (nd_at ND 16 2)) (notin (nd_at ND 12 15) (nd_at ND 12 13) (nd_at ND 12 10) (nd_at ND 12 7) (nd_at ND 12 8) (nd_at ND 12 5) (nd_at ND 12 2))
                    (notin (nd_at ND 9 15) (nd_at ND 9 13) (nd_at ND 9 10) (nd_at ND 9 7) (nd_at ND 9 8) (nd_at ND 9 5) (nd_at ND 9 2)) (notin (nd_at ND 6 15) (nd_at ND 6 13) (nd_at ND 6 10) (nd_at ND 6 7) (nd_at ND 6 8) (nd_at ND 6 5) (nd_at ND 6 2))
                    (notin (nd_at ND 3 15) (nd_at ND 3 13) (nd_at ND 3 10) (nd_at ND 3 7) (nd_at ND 3 8) (nd_at ND 3 5) (nd_at ND 3 2)))
                  have WN : Wd K C H6 cs l D Hd Lv Sn Cm Gn p0 p1 dx0 dx1 hv0 _ lv0 lv' sn0 e2 cm0 cm1 gn0 gn1 (j + 1) := {
                    nd := nd2
                    ol := c6' _ _ (notin (nd_at ND 0 15) (nd_at ND 0 13) (nd_at ND 0 10) (nd_at ND 0 7) (nd_at ND 0 8) (nd_at ND 0 5) (nd_at ND 0 2)) W3.ol
                    oD := c6' _ _ (notin (nd_at ND 14 15) (nd_at ND 14 13) (nd_at ND 14 10) (nd_at ND 14 7) (nd_at ND 14 8) (nd_at ND 14 5) (nd_at ND 14 2)) W3.oD
                    oH := oHH
                    oL := oLH
                    oS := oSH
                    oC := c6' _ _ (notin (nd_at ND 4 15) (nd_at ND 4 13) (nd_at ND 4 10) (nd_at ND 4 7) (nd_at ND 4 8) (nd_at ND 4 5) (nd_at ND 4 2)) W3.oC
                    oG := c6' _ _ (notin (nd_at ND 1 15) (nd_at ND 1 13) (nd_at ND 1 10) (nd_at ND 1 7) (nd_at ND 1 8) (nd_at ND 1 5) (nd_at ND 1 2)) W3.oG
                    d1 := dN
                    d0 := hB }
                  exact last_look WN j1 (fun σ' G' hσ s' => ⟨hσ, _, _, _, _, _, _, WN.same s'⟩)
                · cases z
            · skip
              refine ⟨_, rfl, _, rfl, Hd, _, _, _, rfl, rfl, oH8, rfl, ?_⟩
              obtain ⟨G9, hG9⟩ : ∃ G9, G9 = upd G8 Hd (.lst (pr1 x hv0)) := ⟨_, rfl⟩
              rw [← (show G9 = upd G8 Hd (.lst (List.set [hv0, hv1] (Int.toNat 1) x)) from hG9)]
              have c9 : ChgS SS G3 G9 := by rw [hG9]; exact c8.put (mem (by simp))
              have k9 : ∀ {x : Addr} {o : HO}, x ≠ Hd → G8 x = some o → G9 x = some o := fun n e => by rw [hG9, upd_ne n]; exact e
              have vHd9 : G9 Hd = some (.lst (pr1 x hv0)) := by rw [hG9]; exact upd_same
              have i89 : ∀ a xs, SqT K G8 a xs → SqT K G9 a xs := fun _ _ z => by rw [hG9]; exact sqt_chg ⟨_, oH8⟩ Chg.self z
              have ne2H : e2 ≠ Hd := fun z => by rw [z, s7 _ _ oHA |> fun _ => oHA] at he2; cases he2
              have vlv9 := k9 nlH vlv8
              have hL9 : Sts K G9 ls' (L.filter fun k => !decide (k = n')) := hL8.imp i89
              refine ⟨_, rfl, _, rfl, Lv, _, _, _, rfl, rfl, SqL.of (k9 (nd_at ND 10 13) vLv8), at1 rfl, Nat.zero_le _, ?_⟩
              intro e3 he3
              have s10 := same_upd (o := .lst []) he3
              refine ⟨.list ((L.filter fun k => !decide (k = n')).map stD), .list [], .lst (SqL.of (s10 _ _ vlv9)) (hL9.imp fun a zs z => sqt_same s10 z).dps, .lst (SqL.of upd_same) .nil, shaped_lsts _, by decide, _, rfl, ?_⟩
              rw [eqv_nil]
              have mn : m ≠ none := fun hm => by
                have := dat.non hm
                rw [this] at hnx
                exact absurd hnx List.not_mem_nil
              have pos := don_pos hf mn
              obtain ⟨tx', ex', zx'⟩ := id tx
              subst ex'
              refine iteT' (by rw [decide_eq_false (fun z => by rw [z] at hnx; exact List.not_mem_nil hnx)]; rfl) ?_
              refine ⟨_, rfl, _, rfl, Hd, _, _, _, rfl, rfl, SqL.of (s10 _ _ vHd9), at1 rfl, by show 2 ≤ sizeLine; decide, ?_⟩
              intro t2 ht2
              refine ⟨by show 1 ≤ sizeLine; decide, ?_⟩
              intro E2 hE2
              have s11 := s10.trans (same_upd (o := .tup [.str "vote", .ref tx']) ht2)
              have s12 := s11.trans (same_upd (o := .lst [.ref t2]) hE2)
              obtain ⟨GB, hGB⟩ : ∃ GB, GB = upd (upd (upd G9 e3 (.lst [])) t2 (.tup [.str "vote", .ref tx'])) E2 (.lst [.ref t2]) := ⟨_, rfl⟩
              have sB : Same G9 GB := by rw [hGB]; exact s12
              have vt2 : GB t2 = some (.tup [.str "vote", .ref tx']) := by rw [hGB]; exact same_upd hE2 _ _ upd_same
              have vE2 : GB E2 = some (.lst [.ref t2]) := by rw [hGB]; exact upd_same
              have cB : ChgS SS G3 GB := c9.trans (Same.s sB)
              have hpB : GB p1 = some (.ins C dx1 (deskF h (.ref qa) b)) := sB _ _ (k9 (nd_at ND 15 13) (k8 (nd_at ND 15 7) hpA))
              rw [← hGB]
              have snx : StN nx := hL8.st nx hnx
              have hxB : TupI K GB (.ref tx') nx := ⟨tx', rfl, sqt_same sB (i89 _ _ zx')⟩
              have iB : ∀ a xs, SqT K G3 a xs → SqT K GB a xs := fun _ _ z => sqt_chgS cB nt z
              have hDB : DeedAt K GB t _ := hD.imp iB
              have oDB := cB _ _ (notin (nd_at ND 14 15) (nd_at ND 14 13) (nd_at ND 14 10) (nd_at ND 14 7) (nd_at ND 14 8) (nd_at ND 14 5) (nd_at ND 14 2)) W3.oD
              have hqB := iB _ _ hq
              have hMB : Sts K GB ys M := hM.imp iB
              have hhB : HeldV K GB h m := hh.imp iB
              have holdB : HoldM K GB h M m := by
                rcases hhB with ⟨e1, e2⟩ | z
                · refine .inl ⟨e1, ?_, e2⟩
                  have d2 := dat
                  rw [e2] at d2
                  exact d2.mnone
                · exact .inr z
              have lenM : M.length < 63 := by
                have := dat.pm.length_eq
                have l2 := List.length_filter_le (fun k => !decide (m = some k)) L
                omega
              refine ⟨_, rfl, _, rfl, D, _, _, _, rfl, rfl, SqL.of oDB, at1 rfl, _, rfl, p1, t, dx1, h, .ref qa, b, _, rfl, hpB, hDB, ?_⟩
              refine ⟨p1, dx1, qa, x9, h, b, ys, M, m, n', rfl, hpB, hqB, hMB, hDB.2, holdB, lenM, ?_⟩
              rw [if_pos pos]
              intro l6 H6 hl6 ch out
              have pL := done_perm datA pos
              have upM1 := datA.up
              have ndL : ((L.filter fun k => !decide (k = n'))).Nodup := datA.nd.filter _
              have subL : ∀ k ∈ (L.filter fun k => !decide (k = n')), k ∈ CA := fun k hk => datA.sub k (List.mem_filter.mp hk).1
              rcases out with ⟨z, _⟩ | ⟨t6, x6, nx6, r6, M6, q6, eM1, hl6v, ht6, hx6, sx6, hq6, hM6, hp6'⟩
              · rw [z] at pL
                rw [List.Perm.eq_nil pL.symm] at hnx
                exact absurd hnx List.not_mem_nil
              rw [eM1] at pL upM1
              have enx := min_first pL upM1 (fun k hk => hL8.st k hk) hnx least
              subst enx
              have c6' : ChgS SS G3 H6 := cB.trans (Chg.s ch (mem (by simp)))
              have iH : ∀ a xs, SqT K GB a xs → SqT K H6 a xs := fun _ _ z => sqt_chgI hpB ch z
              have i3H : ∀ a xs, SqT K G3 a xs → SqT K H6 a xs := fun _ _ z => sqt_chgS c6' nt z
              have nEp : E2 ≠ p1 := ne_of vE2 hpB (by intro z; cases z)
              have vEH := ch _ _ nEp vE2
              have hxH : TupI K H6 (.ref tx') nx6 := by obtain ⟨_, e1, z⟩ := hxB; exact ⟨_, e1, iH _ _ z⟩
              refine ⟨_, rfl, _, _, rfl, .inr ⟨l6, E2, [.ref t6], [.ref t2], _, 2, rfl, rfl, hl6v, vEH, dp_due ht6 hx6, dp_due (iH _ _ (SqT.of vt2)) hxH, rfl, by show 1 < 10000; decide, lv_due _ (by rw [sx6.1]; decide)⟩, ?_⟩
              refine ⟨_, rfl, iteF' rfl ?_⟩
              have e2SS : e2 ∉ SS := notin (ne_of_none hpA he2).symm (ne_of_none oHA he2).symm (ne_of_none vLvA he2).symm (ne_of_none oSA he2).symm (ne_of_none hsnA he2).symm (ne_of_none hcmA he2).symm (ne_of_none hgnA he2).symm
              have e23 : G3 e2 = none := cA.back he2 e2SS
              have e2lv : e2 ≠ lv' := (ne_of_none vlvA he2).symm
              have nd1 : [l, Gn, gn1, gn0, Cm, cm1, cm0, Sn, sn1, sn0, Lv, lv', lv0, Hd, D, p1, p0].Nodup := by
                rcases nl with e1 | e1
                · rw [e1]; exact ND
                · exact nd_set 11 ND fun mm => all _ mm (by
                    cases z : G3 lv' with
                    | none => rfl
                    | some o => rw [s4 _ _ z] at e1; cases e1)
              have nd2 : [l, Gn, gn1, gn0, Cm, cm1, cm0, Sn, e2, sn0, Lv, lv', lv0, Hd, D, p1, p0].Nodup := nd_set 8 nd1 fun mm => by
                have mm' : e2 ∈ [l, Gn, gn1, gn0, Cm, cm1, cm0, Sn, sn1, sn0, Lv, lv1, lv0, Hd, D, p1, p0].set 11 lv' := mm
                rcases List.mem_or_eq_of_mem_set mm' with z | z
                · exact all _ z e23
                · exact e2lv z
              have lst_ne : ∀ {y : Addr} {zs : List V}, GB y = some (.lst zs) → y ≠ p1 := fun h => ne_of h hpB (by intro z; cases z)
              have vlvB := sB _ _ vlv9
              have vlvH := ch _ _ (lst_ne vlvB) vlvB
              have ve2B := sB _ _ (k9 ne2H ve2)
              have ve2H := ch _ _ (lst_ne ve2B) ve2B
              have vcmB := sB _ _ (k9 (nd_at ND 5 13) (k8 (nd_at ND 5 7) hcmA))
              have vcmH := ch _ _ (lst_ne vcmB) vcmB
              have vgnB := sB _ _ (k9 (nd_at ND 2 13) (k8 (nd_at ND 2 7) hgnA))
              have vgnH := ch _ _ (lst_ne vgnB) vgnB
              have oHH := ch _ _ (lst_ne (sB _ _ vHd9)) (sB _ _ vHd9)
              have oLH := ch _ _ (nd_at ND 10 15) (sB _ _ (k9 (nd_at ND 10 13) vLv8))
              have oSH := ch _ _ (nd_at ND 7 15) (sB _ _ (k9 (nd_at ND 7 13) vSn8))
              have hLH : Sts K H6 ls' (L.filter fun k => !decide (k = n')) := hL9.imp fun a zs z => iH _ _ (sqt_same sB z)
              have hCH : Sts K H6 csA CA := hCA.imp fun a zs z => iH _ _ (sqt_same sB (i89 _ _ (iA8 _ _ z)))
              have dN : Dk K C H6 p1 dx1 (.ref tx') lv' e2 cm1 gn1 (j + 1) := ⟨.ref x6, q6, false, r6, ls', [], csA, M6, (L.filter fun k => !decide (k = n')), [], CA, gsA, some nx6, hp6', .inr ⟨x6, nx6, rfl, hx6, sx6, rfl⟩, .inr ⟨tx', nx6, rfl, hxH, sx6, rfl⟩, hq6, hM6, vlvH, hLH, ve2H, .nil, vcmH, hCH, vgnH,
                (by simp), Dat.first ndL pL upM1 subL, (fun z => by cases z), lenLB, Nat.zero_le _, lCA, lgA⟩
              have hB := (W3.d0.next.chg c6' nt (notin (nd_at ND 16 15) (nd_at ND 16 13) (nd_at ND 16 10) (nd_at ND 16 7) (nd_at ND 16 8) (nd_at ND 16 5) (nd_at ND 16 2)) (notin (nd_at ND 12 15) (nd_at ND 12 13) (nd_at ND 12 10) (nd_at ND 12 7) (nd_at ND 12 8) (nd_at ND 12 5) (nd_at ND 12 2))
                (notin (nd_at ND 9 15) (nd_at ND 9 13) (nd_at ND 9 10) (nd_at ND 9 7) (nd_at ND 9 8) (nd_at ND 9 5) (nd_at ND 9 2)) (notin (nd_at ND 6 15) (nd_at ND 6 13) (nd_at ND 6 10) (nd_at ND 6 7) (nd_at ND 6 8) (nd_at ND 6 5) (nd_at ND 6 2))
                (notin (nd_at ND 3 15) (nd_at ND 3 13) (nd_at ND 3 10) (nd_at ND 3 7) (nd_at ND 3 8) (nd_at ND 3 5) (nd_at ND 3 2)))
              have WN : Wd K C H6 cs l D Hd Lv Sn Cm Gn p0 p1 dx0 dx1 hv0 _ lv0 lv' sn0 e2 cm0 cm1 gn0 gn1 (j + 1) := {
                nd := nd2
                ol := c6' _ _ (notin (nd_at ND 0 15) (nd_at ND 0 13) (nd_at ND 0 10) (nd_at ND 0 7) (nd_at ND 0 8) (nd_at ND 0 5) (nd_at ND 0 2)) W3.ol
                oD := c6' _ _ (notin (nd_at ND 14 15) (nd_at ND 14 13) (nd_at ND 14 10) (nd_at ND 14 7) (nd_at ND 14 8) (nd_at ND 14 5) (nd_at ND 14 2)) W3.oD
                oH := oHH
                oL := oLH
                oS := oSH
                oC := c6' _ _ (notin (nd_at ND 4 15) (nd_at ND 4 13) (nd_at ND 4 10) (nd_at ND 4 7) (nd_at ND 4 8) (nd_at ND 4 5) (nd_at ND 4 2)) W3.oC
                oG := c6' _ _ (notin (nd_at ND 1 15) (nd_at ND 1 13) (nd_at ND 1 10) (nd_at ND 1 7) (nd_at ND 1 8) (nd_at ND 1 5) (nd_at ND 1 2)) W3.oG
                d1 := dN
                d0 := hB }
              exact last_look WN j1 (fun σ' G' hσ s' => ⟨hσ, _, _, _, _, _, _, WN.same s'⟩)
          | false =>
            skip
            refine iteF ?_
            refine ⟨_, rfl, t, _, _, _, rfl, rfl, hDA.1, at0 rfl, rfl, _, rfl, ?_⟩
            rw [dec_str]
            refine iteF' (by decide +kernel) ?_
            obtain ⟨GB, hGB⟩ : ∃ GB, GB = GA := ⟨_, rfl⟩
            have cB := cA; have hpB := hpA; have veB := veA
            rw [← hGB] at cB hpB veB
            rw [← hGB]
            have iB : ∀ a xs, SqT K G3 a xs → SqT K GB a xs := fun _ _ z => sqt_chgS cB nt z
            have hDB : DeedAt K GB t _ := hD.imp iB
            have oDB := cB _ _ (notin (nd_at ND 14 15) (nd_at ND 14 13) (nd_at ND 14 10) (nd_at ND 14 7) (nd_at ND 14 8) (nd_at ND 14 5) (nd_at ND 14 2)) W3.oD
            have hqB := iB _ _ hq
            have hMB : Sts K GB ys M := hM.imp iB
            have hhB : HeldV K GB h m := hh.imp iB
            have holdB : HoldM K GB h M m := by
              rcases hhB with ⟨e1, e2⟩ | z
              · refine .inl ⟨e1, ?_, e2⟩
                have d2 := dat
                rw [e2] at d2
                exact d2.mnone
              · exact .inr z
            have lenM : M.length < 63 := by
              have := dat.pm.length_eq
              have l2 := List.length_filter_le (fun k => !decide (m = some k)) L
              omega
            refine ⟨_, rfl, _, rfl, D, _, _, _, rfl, rfl, SqL.of oDB, at1 rfl, _, rfl, p1, t, dx1, h, .ref qa, b, _, rfl, hpB, hDB, ?_⟩
            obtain ⟨k, hk, gk, neg⟩ := don_neg hf
            refine ⟨p1, dx1, qa, x9, h, b, ys, M, m, n', rfl, hpB, hqB, hMB, hDB.2, holdB, lenM, ?_⟩
            rw [if_neg neg]
            intro l6 H6 hl6 ch out
            obtain ⟨hl6v, q6, ys6, hq6, hM6, hp6'⟩ := out
            have datN := datF k hk gk
            have c6' : ChgS SS G3 H6 := cB.trans (Chg.s ch (mem (by simp)))
            have iH : ∀ a xs, SqT K GB a xs → SqT K H6 a xs := fun _ _ z => sqt_chgI hpB ch z
            have i3H : ∀ a xs, SqT K G3 a xs → SqT K H6 a xs := fun _ _ z => sqt_chgS c6' nt z
            have nEp : e ≠ p1 := ne_of veB hpB (by intro z; cases z)
            have vEH := ch _ _ nEp veB
            refine ⟨_, rfl, _, _, rfl, .inr ⟨l6, e, [], [], [], 2, rfl, rfl, hl6v, vEH, .nil, .nil, rfl, by decide, fun _ z => absurd z List.not_mem_nil⟩, ?_⟩
            refine ⟨_, rfl, iteF' rfl ?_⟩
            have nd1 : [l, Gn, gn1, gn0, Cm, cm1, cm0, Sn, sn1, sn0, Lv, lv', lv0, Hd, D, p1, p0].Nodup := by
              rcases nl with e1 | e1
              · rw [e1]; exact ND
              · exact nd_set 11 ND fun mm => all _ mm (by
                  cases z : G3 lv' with
                  | none => rfl
                  | some o => rw [s4 _ _ z] at e1; cases e1)
            have nd2 := nd1
            have lst_ne : ∀ {y : Addr} {zs : List V}, GB y = some (.lst zs) → y ≠ p1 := fun h => ne_of h hpB (by intro z; cases z)
            rw [← hGB] at vlvA hsnA hcmA hgnA oHA oSA vLvA
            have vlvH := ch _ _ (lst_ne vlvA) vlvA
            have vsnH := ch _ _ (lst_ne hsnA) hsnA
            have vcmH := ch _ _ (lst_ne hcmA) hcmA
            have vgnH := ch _ _ (lst_ne hgnA) hgnA
            have oHH := ch _ _ (nd_at ND 13 15) oHA
            have oLH := ch _ _ (nd_at ND 10 15) vLvA
            have oSH := ch _ _ (nd_at ND 7 15) oSA
            rw [← hGB] at hLA hCA
            have hLH : Sts K H6 ls' (L.filter fun k => !decide (k = n')) := hLA.imp iH
            have hCH : Sts K H6 csA CA := hCA.imp iH
            have dN : Dk K C H6 p1 dx1 hv1 lv' sn1 cm1 gn1 (j + 1) := ⟨h, q6, b, ys6, ls', zs, csA, (M.filter fun k => !decide (k = n')), (L.filter fun k => !decide (k = n')), Z, CA, gsA, m, hp6', hh.imp i3H, hhv.imp i3H, hq6, hM6, vlvH, hLH, vsnH, hZ.imp i3H, vcmH, hCH, vgnH,
              hbz, datN, zn, lenLB, by omega, lCA, lgA⟩
            have hB := (W3.d0.next.chg c6' nt (notin (nd_at ND 16 15) (nd_at ND 16 13) (nd_at ND 16 10) (nd_at ND 16 7) (nd_at ND 16 8) (nd_at ND 16 5) (nd_at ND 16 2)) (notin (nd_at ND 12 15) (nd_at ND 12 13) (nd_at ND 12 10) (nd_at ND 12 7) (nd_at ND 12 8) (nd_at ND 12 5) (nd_at ND 12 2))
              (notin (nd_at ND 9 15) (nd_at ND 9 13) (nd_at ND 9 10) (nd_at ND 9 7) (nd_at ND 9 8) (nd_at ND 9 5) (nd_at ND 9 2)) (notin (nd_at ND 6 15) (nd_at ND 6 13) (nd_at ND 6 10) (nd_at ND 6 7) (nd_at ND 6 8) (nd_at ND 6 5) (nd_at ND 6 2))
              (notin (nd_at ND 3 15) (nd_at ND 3 13) (nd_at ND 3 10) (nd_at ND 3 7) (nd_at ND 3 8) (nd_at ND 3 5) (nd_at ND 3 2)))
            have WN : Wd K C H6 cs l D Hd Lv Sn Cm Gn p0 p1 dx0 dx1 hv0 hv1 lv0 lv' sn0 sn1 cm0 cm1 gn0 gn1 (j + 1) := {
              nd := nd2
              ol := c6' _ _ (notin (nd_at ND 0 15) (nd_at ND 0 13) (nd_at ND 0 10) (nd_at ND 0 7) (nd_at ND 0 8) (nd_at ND 0 5) (nd_at ND 0 2)) W3.ol
              oD := c6' _ _ (notin (nd_at ND 14 15) (nd_at ND 14 13) (nd_at ND 14 10) (nd_at ND 14 7) (nd_at ND 14 8) (nd_at ND 14 5) (nd_at ND 14 2)) W3.oD
              oH := oHH
              oL := oLH
              oS := oSH
              oC := c6' _ _ (notin (nd_at ND 4 15) (nd_at ND 4 13) (nd_at ND 4 10) (nd_at ND 4 7) (nd_at ND 4 8) (nd_at ND 4 5) (nd_at ND 4 2)) W3.oC
              oG := c6' _ _ (notin (nd_at ND 1 15) (nd_at ND 1 13) (nd_at ND 1 10) (nd_at ND 1 7) (nd_at ND 1 8) (nd_at ND 1 5) (nd_at ND 1 2)) W3.oG
              d1 := dN
              d0 := hB }
            exact last_look WN j1 (fun σ' G' hσ s' => ⟨hσ, _, _, _, _, _, _, WN.same s'⟩)
        | gone v =>
          refine ⟨_, rfl, t, _, _, _, rfl, rfl, hD6, at0 rfl, rfl, _, rfl, ?_⟩
          rw [dec_str]
          refine iteF' (by decide +kernel) ?_
          refine ⟨_, rfl, t, _, _, _, rfl, rfl, hD6, at0 rfl, rfl, _, rfl, ?_⟩
          rw [dec_str]
          refine iteT' (by decide +kernel) ?_
          have ngL : gn1 ≠ Lv := (nd_at ND 2 10)
          have hgn6 := k6 ngL hgn
          refine ⟨_, rfl, _, rfl, Gn, _, _, _, rfl, rfl, SqL.of (k6 (nd_at ND 1 10) W3.oG), at1 rfl, .inl ⟨rfl, _, SqL.of hgn6⟩, _, rfl, t, _, _, _, rfl, rfl, hD6, at1 rfl, gn1, _, _, rfl, rfl, hgn6, Nat.lt_of_lt_of_le (show (gs.map V.int).length < 100 by rw [List.length_map]; omega) (by decide), ?_⟩
          obtain ⟨gsA, egs⟩ : ∃ gsA, gsA = gs ++ [v] := ⟨_, rfl⟩
          obtain ⟨GA, hGA⟩ : ∃ GA, GA = upd G6 gn1 (.lst (gsA.map V.int)) := ⟨_, rfl⟩
          rw [← (show GA = upd G6 gn1 (.lst (gs.map V.int ++ [.int v])) from by rw [hGA, egs, List.map_append]; rfl)]
          have cA : ChgS SS G3 GA := by rw [hGA]; exact c6.put (mem (by simp))
          have kA : ∀ {x : Addr} {o : HO}, x ≠ gn1 → G6 x = some o → GA x = some o := fun n e => by rw [hGA, upd_ne n]; exact e
          have i6A : ∀ a xs, SqT K G6 a xs → SqT K GA a xs := fun _ _ z => by rw [hGA]; exact sqt_chg ⟨_, hgn6⟩ Chg.self z
          have nlg : lv' ≠ gn1 := by
            rcases nl with e1 | e1
            · rw [e1]; exact (nd_at ND 11 2)
            · exact (ne_of_none (s4 _ _ hgn) e1).symm
          have neg : e ≠ gn1 := (ne_of_none hgn he).symm
          have vLvA := kA (nd_at ND 10 2) vLv; have vlvA := kA nlg vlv'; have hLA := hL6.imp i6A; have hDA := hD6.imp i6A; have oHA := kA (nd_at ND 13 2) (k6 (nd_at ND 13 10) W3.oH); have oSA := kA (nd_at ND 7 2) (k6 (nd_at ND 7 10) W3.oS); have veA := kA neg ve6
          have hpA := kA (nd_at ND 15 2) hp6; have hsnA := kA (nd_at ND 8 2) (k6 (nd_at ND 8 10) hsn); have hcmA := kA (nd_at ND 5 2) (k6 (nd_at ND 5 10) hcm)
          have hgnA : GA gn1 = some (.lst (gsA.map V.int)) := by rw [hGA]; exact upd_same
          obtain ⟨csA, ecs⟩ : ∃ csA, csA = cs2 := ⟨_, rfl⟩
          obtain ⟨CA, eCA⟩ : ∃ CA, CA = Cd := ⟨_, rfl⟩
          have hCA : Sts K GA cs2 Cd := hC.imp (fun _ _ z => sqt_chgS cA nt z)
          have datA := dat
          rw [← ecs] at hcmA
          rw [← ecs, ← eCA] at hCA
          rw [← eCA] at datA
          have lCA : CA.length ≤ j + 1 := by rw [eCA]; omega
          have lgA : gsA.length ≤ j + 1 := by rw [egs, List.length_append, List.length_singleton]; omega
          have iA : ∀ a xs, SqT K G3 a xs → SqT K GA a xs := fun _ _ z => sqt_chgS cA nt z
          refine ⟨_, rfl, _, rfl, Hd, _, _, _, rfl, rfl, SqL.of oHA, at1 rfl, _, rfl, _, t, _, _, rfl, hhv.imp iA, hDA, ?_⟩
          refine ⟨_, rfl, ?_⟩
          have lenLB : ((L.filter fun k => !decide (seatN k = v))).length ≤ j + 1 := Nat.le_trans (List.length_filter_le _ _) (by omega)
          have datF : ∀ k, m = some k → (fun k => !decide (seatN k = v)) k = true → Dat (L.filter fun k => !decide (seatN k = v)) (M.filter fun k => !decide (seatN k = v)) m CA := fun k e1 e2 => by
            have d2 := datA
            rw [e1] at d2 ⊢
            exact d2.keep (fun k => !decide (seatN k = v)) e2
          cases hf : freedB m (.gone v) with
          | true =>
            refine iteT ?_
            refine ⟨Nat.zero_le _, ?_⟩
            intro e2 he2
            have s7 := same_upd (o := .lst []) he2
            have c7 := cA.new (o := .lst []) he2
            refine ⟨_, rfl, _, rfl, Sn, _, _, _, rfl, rfl, s7 _ _ oSA, rfl, ?_⟩
            obtain ⟨G8, hG8⟩ : ∃ G8, G8 = upd (upd GA e2 (.lst [])) Sn (.lst (pr1 (.ref e2) (.ref sn0))) := ⟨_, rfl⟩
            rw [← (show G8 = upd (upd GA e2 (.lst [])) Sn (.lst (List.set [.ref sn0, .ref sn1] (Int.toNat 1) (.ref e2))) from hG8)]
            have c8 : ChgS SS G3 G8 := by rw [hG8]; exact c7.put (mem (by simp))
            have vSn8 : G8 Sn = some (.lst (pr1 (.ref e2) (.ref sn0))) := by rw [hG8]; exact upd_same
            have k8 : ∀ {x : Addr} {o : HO}, x ≠ Sn → GA x = some o → G8 x = some o := fun n e => by rw [hG8, upd_ne n]; exact s7 _ _ e
            have ne2 : e2 ≠ Sn := (ne_of_none oSA he2).symm
            have ve2 : G8 e2 = some (.lst []) := by rw [hG8, upd_ne ne2]; exact upd_same
            have oH8 := k8 (nd_at ND 13 7) oHA
            have vLv8 := k8 (nd_at ND 10 7) vLvA
            have nlS : lv' ≠ Sn := by
              rcases nl with e1 | e1
              · rw [e1]; exact (nd_at ND 11 7)
              · exact (ne_of_none (s4 _ _ W3.oS) e1).symm
            have vlv8 := k8 nlS vlvA
            have iA8 : ∀ a xs, SqT K GA a xs → SqT K G8 a xs := fun _ _ z => by rw [hG8]; exact sqt_chg ⟨_, s7 _ _ oSA⟩ Chg.self (sqt_same s7 z)
            have hL8 : Sts K G8 ls' (L.filter fun k => !decide (seatN k = v)) := hLA.imp iA8
            have i8 : ∀ a xs, SqT K G3 a xs → SqT K G8 a xs := fun _ _ z => sqt_chgS c8 nt z
            have nlH : lv' ≠ Hd := by
              rcases nl with e1 | e1
              · rw [e1]; exact (nd_at ND 11 13)
              · exact (ne_of_none (s4 _ _ W3.oH) e1).symm
            refine ⟨_, rfl, _, rfl, Lv, _, _, _, rfl, rfl, SqL.of vLv8, at1 rfl, lv', ls', (L.filter fun k => !decide (seatN k = v)), rfl, rfl, SqL.of vlv8, hL8, fun el => ?_, fun x nx hx hnx tx least => ?_⟩
            · skip
              refine ⟨_, rfl, _, rfl, Hd, _, _, _, rfl, rfl, oH8, rfl, ?_⟩
              obtain ⟨G9, hG9⟩ : ∃ G9, G9 = upd G8 Hd (.lst (pr1 V.non hv0)) := ⟨_, rfl⟩
              rw [← (show G9 = upd G8 Hd (.lst (List.set [hv0, hv1] (Int.toNat 1) V.non)) from hG9)]
              have c9 : ChgS SS G3 G9 := by rw [hG9]; exact c8.put (mem (by simp))
              have k9 : ∀ {x : Addr} {o : HO}, x ≠ Hd → G8 x = some o → G9 x = some o := fun n e => by rw [hG9, upd_ne n]; exact e
              have vHd9 : G9 Hd = some (.lst (pr1 V.non hv0)) := by rw [hG9]; exact upd_same
              have i89 : ∀ a xs, SqT K G8 a xs → SqT K G9 a xs := fun _ _ z => by rw [hG9]; exact sqt_chg ⟨_, oH8⟩ Chg.self z
              have ne2H : e2 ≠ Hd := fun z => by rw [z, s7 _ _ oHA |> fun _ => oHA] at he2; cases he2
              have vlv9 := k9 nlH vlv8
              have hL9 : Sts K G9 ls' (L.filter fun k => !decide (seatN k = v)) := hL8.imp i89
              refine ⟨_, rfl, _, rfl, Lv, _, _, _, rfl, rfl, SqL.of (k9 (nd_at ND 10 13) vLv8), at1 rfl, Nat.zero_le _, ?_⟩
              intro e3 he3
              have s10 := same_upd (o := .lst []) he3
              refine ⟨.list ((L.filter fun k => !decide (seatN k = v)).map stD), .list [], .lst (SqL.of (s10 _ _ vlv9)) (hL9.imp fun a zs z => sqt_same s10 z).dps, .lst (SqL.of upd_same) .nil, shaped_lsts _, by decide, _, rfl, ?_⟩
              rw [eqv_nil]
              refine iteF' (by simp [el]) ?_
              obtain ⟨GB, hGB⟩ : ∃ GB, GB = upd G9 e3 (.lst []) := ⟨_, rfl⟩
              have sB : Same G9 GB := by rw [hGB]; exact s10
              have cB : ChgS SS G3 GB := by rw [hGB]; exact c9.new he3
              have hpB : GB p1 = some (.ins C dx1 (deskF h (.ref qa) b)) := sB _ _ (k9 (nd_at ND 15 13) (k8 (nd_at ND 15 7) hpA))
              have neS : e ≠ Sn := ne_of_none W3.oS he |> Ne.symm
              have neH : e ≠ Hd := ne_of_none W3.oH he |> Ne.symm
              have veB : GB e = some (.lst []) := sB _ _ (k9 neH (k8 neS veA))
              rw [← hGB]
              have iB : ∀ a xs, SqT K G3 a xs → SqT K GB a xs := fun _ _ z => sqt_chgS cB nt z
              have hDB : DeedAt K GB t _ := hD.imp iB
              have oDB := cB _ _ (notin (nd_at ND 14 15) (nd_at ND 14 13) (nd_at ND 14 10) (nd_at ND 14 7) (nd_at ND 14 8) (nd_at ND 14 5) (nd_at ND 14 2)) W3.oD
              have hqB := iB _ _ hq
              have hMB : Sts K GB ys M := hM.imp iB
              have hhB : HeldV K GB h m := hh.imp iB
              have holdB : HoldM K GB h M m := by
                rcases hhB with ⟨e1, e2⟩ | z
                · refine .inl ⟨e1, ?_, e2⟩
                  have d2 := dat
                  rw [e2] at d2
                  exact d2.mnone
                · exact .inr z
              have lenM : M.length < 63 := by
                have := dat.pm.length_eq
                have l2 := List.length_filter_le (fun k => !decide (m = some k)) L
                omega
              refine ⟨_, rfl, _, rfl, D, _, _, _, rfl, rfl, SqL.of oDB, at1 rfl, _, rfl, p1, t, dx1, h, .ref qa, b, _, rfl, hpB, hDB, ?_⟩
              by_cases mn : m = none
              · refine ⟨p1, dx1, qa, h, b, ys, M, m, v, rfl, hpB, hqB, hMB, holdB, lenM, ?_⟩
                rw [if_neg (by rw [mn]; simp [isSeat])]
                intro l6 H6 hl6 ch out
                obtain ⟨hl6v, q6, ys6, hq6, hM6, hp6'⟩ := out
                have c6' : ChgS SS G3 H6 := cB.trans (Chg.s ch (mem (by simp)))
                have iH : ∀ a xs, SqT K GB a xs → SqT K H6 a xs := fun _ _ z => sqt_chgI hpB ch z
                have i3H : ∀ a xs, SqT K G3 a xs → SqT K H6 a xs := fun _ _ z => sqt_chgS c6' nt z
                have nEp : e ≠ p1 := ne_of veB hpB (by intro z; cases z)
                have vEH := ch _ _ nEp veB
                refine ⟨_, rfl, _, _, rfl, .inr ⟨l6, e, [], [], [], 2, rfl, rfl, hl6v, vEH, .nil, .nil, rfl, by decide, fun _ z => absurd z List.not_mem_nil⟩, ?_⟩
                refine ⟨_, rfl, iteF' rfl ?_⟩
                have e2SS : e2 ∉ SS := notin (ne_of_none hpA he2).symm (ne_of_none oHA he2).symm (ne_of_none vLvA he2).symm (ne_of_none oSA he2).symm (ne_of_none hsnA he2).symm (ne_of_none hcmA he2).symm (ne_of_none hgnA he2).symm
                have e23 : G3 e2 = none := cA.back he2 e2SS
                have e2lv : e2 ≠ lv' := (ne_of_none vlvA he2).symm
                have nd1 : [l, Gn, gn1, gn0, Cm, cm1, cm0, Sn, sn1, sn0, Lv, lv', lv0, Hd, D, p1, p0].Nodup := by
                  rcases nl with e1 | e1
                  · rw [e1]; exact ND
                  · exact nd_set 11 ND fun mm => all _ mm (by
                      cases z : G3 lv' with
                      | none => rfl
                      | some o => rw [s4 _ _ z] at e1; cases e1)
                have nd2 : [l, Gn, gn1, gn0, Cm, cm1, cm0, Sn, e2, sn0, Lv, lv', lv0, Hd, D, p1, p0].Nodup := nd_set 8 nd1 fun mm => by
                  have mm' : e2 ∈ [l, Gn, gn1, gn0, Cm, cm1, cm0, Sn, sn1, sn0, Lv, lv1, lv0, Hd, D, p1, p0].set 11 lv' := mm
                  rcases List.mem_or_eq_of_mem_set mm' with z | z
                  · exact all _ z e23
                  · exact e2lv z
                have lst_ne : ∀ {y : Addr} {zs : List V}, GB y = some (.lst zs) → y ≠ p1 := fun h => ne_of h hpB (by intro z; cases z)
                have vlvB := sB _ _ vlv9
                have vlvH := ch _ _ (lst_ne vlvB) vlvB
                have ve2B := sB _ _ (k9 ne2H ve2)
                have ve2H := ch _ _ (lst_ne ve2B) ve2B
                have vcmB := sB _ _ (k9 (nd_at ND 5 13) (k8 (nd_at ND 5 7) hcmA))
                have vcmH := ch _ _ (lst_ne vcmB) vcmB
                have vgnB := sB _ _ (k9 (nd_at ND 2 13) (k8 (nd_at ND 2 7) hgnA))
                have vgnH := ch _ _ (lst_ne vgnB) vgnB
                have oHH := ch _ _ (lst_ne (sB _ _ vHd9)) (sB _ _ vHd9)
                have oLH := ch _ _ (nd_at ND 10 15) (sB _ _ (k9 (nd_at ND 10 13) vLv8))
                have oSH := ch _ _ (nd_at ND 7 15) (sB _ _ (k9 (nd_at ND 7 13) vSn8))
                have hLH : Sts K H6 ls' (L.filter fun k => !decide (seatN k = v)) := hL9.imp fun a zs z => iH _ _ (sqt_same sB z)
                have hCH : Sts K H6 csA CA := hCA.imp fun a zs z => iH _ _ (sqt_same sB (i89 _ _ (iA8 _ _ z)))
                have datN : Dat (L.filter fun k => !decide (seatN k = v)) (M.filter fun k => !decide (seatN k = v)) m CA := by
                  have d2 := datA
                  rw [mn] at d2 ⊢
                  rw [d2.non rfl, d2.mnone]
                  exact Dat.empty
                have dN : Dk K C H6 p1 dx1 .non lv' e2 cm1 gn1 (j + 1) := ⟨h, q6, b, ys6, ls', [], csA, (M.filter fun k => !decide (seatN k = v)), (L.filter fun k => !decide (seatN k = v)), [], CA, gsA, m, hp6', hh.imp i3H, .inl ⟨rfl, mn⟩, hq6, hM6, vlvH, hLH, ve2H, .nil, vcmH, hCH, vgnH,
                  (by rw [hbz, zn mn]), datN, fun _ => rfl, lenLB, Nat.zero_le _, lCA, lgA⟩
                have hB := (W3.d0.next.chg c6' nt (notin (nd_at ND 16 15) (nd_at ND 16 13) (nd_at ND 16 10) (nd_at ND 16 7) (nd_at ND 16 8) (nd_at ND 16 5) (nd_at ND 16 2)) (notin (nd_at ND 12 15) (nd_at ND 12 13) (nd_at ND 12 10) (nd_at ND 12 7) (nd_at ND 12 8) (nd_at ND 12 5) (nd_at ND 12 2))
                  (notin (nd_at ND 9 15) (nd_at ND 9 13) (nd_at ND 9 10) (nd_at ND 9 7) (nd_at ND 9 8) (nd_at ND 9 5) (nd_at ND 9 2)) (notin (nd_at ND 6 15) (nd_at ND 6 13) (nd_at ND 6 10) (nd_at ND 6 7) (nd_at ND 6 8) (nd_at ND 6 5) (nd_at ND 6 2))
                  (notin (nd_at ND 3 15) (nd_at ND 3 13) (nd_at ND 3 10) (nd_at ND 3 7) (nd_at ND 3 8) (nd_at ND 3 5) (nd_at ND 3 2)))
                have WN : Wd K C H6 cs l D Hd Lv Sn Cm Gn p0 p1 dx0 dx1 hv0 _ lv0 lv' sn0 e2 cm0 cm1 gn0 gn1 (j + 1) := {
                  nd := nd2
                  ol := c6' _ _ (notin (nd_at ND 0 15) (nd_at ND 0 13) (nd_at ND 0 10) (nd_at ND 0 7) (nd_at ND 0 8) (nd_at ND 0 5) (nd_at ND 0 2)) W3.ol
                  oD := c6' _ _ (notin (nd_at ND 14 15) (nd_at ND 14 13) (nd_at ND 14 10) (nd_at ND 14 7) (nd_at ND 14 8) (nd_at ND 14 5) (nd_at ND 14 2)) W3.oD
                  oH := oHH
                  oL := oLH
                  oS := oSH
                  oC := c6' _ _ (notin (nd_at ND 4 15) (nd_at ND 4 13) (nd_at ND 4 10) (nd_at ND 4 7) (nd_at ND 4 8) (nd_at ND 4 5) (nd_at ND 4 2)) W3.oC
                  oG := c6' _ _ (notin (nd_at ND 1 15) (nd_at ND 1 13) (nd_at ND 1 10) (nd_at ND 1 7) (nd_at ND 1 8) (nd_at ND 1 5) (nd_at ND 1 2)) W3.oG
                  d1 := dN
                  d0 := hB }
                exact last_look WN j1 (fun σ' G' hσ s' => ⟨hσ, _, _, _, _, _, _, WN.same s'⟩)
              · have pos := gone_pos hf mn
                refine ⟨p1, dx1, qa, h, b, ys, M, m, v, rfl, hpB, hqB, hMB, holdB, lenM, ?_⟩
                rw [if_pos pos]
                intro l6 H6 hl6 ch out
                have pL := gone_perm datA pos
                rw [el] at pL
                have eM := List.Perm.eq_nil pL
                rw [eM] at out
                rcases out with ⟨_, hl6v, q6, hq6, hp6'⟩ | ⟨_, _, _, _, _, _, z, _⟩
                · skip
                  have c6' : ChgS SS G3 H6 := cB.trans (Chg.s ch (mem (by simp)))
                  have iH : ∀ a xs, SqT K GB a xs → SqT K H6 a xs := fun _ _ z => sqt_chgI hpB ch z
                  have i3H : ∀ a xs, SqT K G3 a xs → SqT K H6 a xs := fun _ _ z => sqt_chgS c6' nt z
                  have nEp : e ≠ p1 := ne_of veB hpB (by intro z; cases z)
                  have vEH := ch _ _ nEp veB
                  refine ⟨_, rfl, _, _, rfl, .inr ⟨l6, e, [], [], [], 2, rfl, rfl, hl6v, vEH, .nil, .nil, rfl, by decide, fun _ z => absurd z List.not_mem_nil⟩, ?_⟩
                  refine ⟨_, rfl, iteF' rfl ?_⟩
                  have e2SS : e2 ∉ SS := notin (ne_of_none hpA he2).symm (ne_of_none oHA he2).symm (ne_of_none vLvA he2).symm (ne_of_none oSA he2).symm (ne_of_none hsnA he2).symm (ne_of_none hcmA he2).symm (ne_of_none hgnA he2).symm
                  have e23 : G3 e2 = none := cA.back he2 e2SS
                  have e2lv : e2 ≠ lv' := (ne_of_none vlvA he2).symm
                  have nd1 : [l, Gn, gn1, gn0, Cm, cm1, cm0, Sn, sn1, sn0, Lv, lv', lv0, Hd, D, p1, p0].Nodup := by
                    rcases nl with e1 | e1
                    · rw [e1]; exact ND
                    · exact nd_set 11 ND fun mm => all _ mm (by
                        cases z : G3 lv' with
                        | none => rfl
                        | some o => rw [s4 _ _ z] at e1; cases e1)
                  have nd2 : [l, Gn, gn1, gn0, Cm, cm1, cm0, Sn, e2, sn0, Lv, lv', lv0, Hd, D, p1, p0].Nodup := nd_set 8 nd1 fun mm => by
                    have mm' : e2 ∈ [l, Gn, gn1, gn0, Cm, cm1, cm0, Sn, sn1, sn0, Lv, lv1, lv0, Hd, D, p1, p0].set 11 lv' := mm
                    rcases List.mem_or_eq_of_mem_set mm' with z | z
                    · exact all _ z e23
                    · exact e2lv z
                  have lst_ne : ∀ {y : Addr} {zs : List V}, GB y = some (.lst zs) → y ≠ p1 := fun h => ne_of h hpB (by intro z; cases z)
                  have vlvB := sB _ _ vlv9
                  have vlvH := ch _ _ (lst_ne vlvB) vlvB
                  have ve2B := sB _ _ (k9 ne2H ve2)
                  have ve2H := ch _ _ (lst_ne ve2B) ve2B
                  have vcmB := sB _ _ (k9 (nd_at ND 5 13) (k8 (nd_at ND 5 7) hcmA))
                  have vcmH := ch _ _ (lst_ne vcmB) vcmB
                  have vgnB := sB _ _ (k9 (nd_at ND 2 13) (k8 (nd_at ND 2 7) hgnA))
                  have vgnH := ch _ _ (lst_ne vgnB) vgnB
                  have oHH := ch _ _ (lst_ne (sB _ _ vHd9)) (sB _ _ vHd9)
                  have oLH := ch _ _ (nd_at ND 10 15) (sB _ _ (k9 (nd_at ND 10 13) vLv8))
                  have oSH := ch _ _ (nd_at ND 7 15) (sB _ _ (k9 (nd_at ND 7 13) vSn8))
                  have hLH : Sts K H6 ls' (L.filter fun k => !decide (seatN k = v)) := hL9.imp fun a zs z => iH _ _ (sqt_same sB z)
                  have hCH : Sts K H6 csA CA := hCA.imp fun a zs z => iH _ _ (sqt_same sB (i89 _ _ (iA8 _ _ z)))
                  have datN : Dat (L.filter fun k => !decide (seatN k = v)) [] none CA := by rw [el]; exact Dat.empty
                  have dN : Dk K C H6 p1 dx1 .non lv' e2 cm1 gn1 (j + 1) := ⟨.non, q6, false, [], ls', [], csA, [], (L.filter fun k => !decide (seatN k = v)), [], CA, gsA, none, hp6', .inl ⟨rfl, rfl⟩, .inl ⟨rfl, rfl⟩, hq6, .nil, vlvH, hLH, ve2H, .nil, vcmH, hCH, vgnH,
                    (by simp), datN, fun _ => rfl, lenLB, Nat.zero_le _, lCA, lgA⟩
                  have hB := (W3.d0.next.chg c6' nt (notin (nd_at ND 16 15) (nd_at ND 16 13) (nd_at ND 16 10) (nd_at ND 16 7) (nd_at ND 16 8) (nd_at ND 16 5) (nd_at ND 16 2)) (notin (nd_at ND 12 15) (nd_at ND 12 13) (nd_at ND 12 10) (nd_at ND 12 7) (nd_at ND 12 8) (nd_at ND 12 5) (nd_at ND 12 2))
                    (notin (nd_at ND 9 15) (nd_at ND 9 13) (nd_at ND 9 10) (nd_at ND 9 7) (nd_at ND 9 8) (nd_at ND 9 5) (nd_at ND 9 2)) (notin (nd_at ND 6 15) (nd_at ND 6 13) (nd_at ND 6 10) (nd_at ND 6 7) (nd_at ND 6 8) (nd_at ND 6 5) (nd_at ND 6 2))
                    (notin (nd_at ND 3 15) (nd_at ND 3 13) (nd_at ND 3 10) (nd_at ND 3 7) (nd_at ND 3 8) (nd_at ND 3 5) (nd_at ND 3 2)))
                  have WN : Wd K C H6 cs l D Hd Lv Sn Cm Gn p0 p1 dx0 dx1 hv0 _ lv0 lv' sn0 e2 cm0 cm1 gn0 gn1 (j + 1) := {
                    nd := nd2
                    ol := c6' _ _ (notin (nd_at ND 0 15) (nd_at ND 0 13) (nd_at ND 0 10) (nd_at ND 0 7) (nd_at ND 0 8) (nd_at ND 0 5) (nd_at ND 0 2)) W3.ol
                    oD := c6' _ _ (notin (nd_at ND 14 15) (nd_at ND 14 13) (nd_at ND 14 10) (nd_at ND 14 7) (nd_at ND 14 8) (nd_at ND 14 5) (nd_at ND 14 2)) W3.oD
                    oH := oHH
                    oL := oLH
                    oS := oSH
                    oC := c6' _ _ (notin (nd_at ND 4 15) (nd_at ND 4 13) (nd_at ND 4 10) (nd_at ND 4 7) (nd_at ND 4 8) (nd_at ND 4 5) (nd_at ND 4 2)) W3.oC
                    oG := c6' _ _ (notin (nd_at ND 1 15) (nd_at ND 1 13) (nd_at ND 1 10) (nd_at ND 1 7) (nd_at ND 1 8) (nd_at ND 1 5) (nd_at ND 1 2)) W3.oG
                    d1 := dN
                    d0 := hB }
                  exact last_look WN j1 (fun σ' G' hσ s' => ⟨hσ, _, _, _, _, _, _, WN.same s'⟩)
                · cases z
            · skip
              refine ⟨_, rfl, _, rfl, Hd, _, _, _, rfl, rfl, oH8, rfl, ?_⟩
              obtain ⟨G9, hG9⟩ : ∃ G9, G9 = upd G8 Hd (.lst (pr1 x hv0)) := ⟨_, rfl⟩
              rw [← (show G9 = upd G8 Hd (.lst (List.set [hv0, hv1] (Int.toNat 1) x)) from hG9)]
              have c9 : ChgS SS G3 G9 := by rw [hG9]; exact c8.put (mem (by simp))
              have k9 : ∀ {x : Addr} {o : HO}, x ≠ Hd → G8 x = some o → G9 x = some o := fun n e => by rw [hG9, upd_ne n]; exact e
              have vHd9 : G9 Hd = some (.lst (pr1 x hv0)) := by rw [hG9]; exact upd_same
              have i89 : ∀ a xs, SqT K G8 a xs → SqT K G9 a xs := fun _ _ z => by rw [hG9]; exact sqt_chg ⟨_, oH8⟩ Chg.self z
              have ne2H : e2 ≠ Hd := fun z => by rw [z, s7 _ _ oHA |> fun _ => oHA] at he2; cases he2
              have vlv9 := k9 nlH vlv8
              have hL9 : Sts K G9 ls' (L.filter fun k => !decide (seatN k = v)) := hL8.imp i89
              refine ⟨_, rfl, _, rfl, Lv, _, _, _, rfl, rfl, SqL.of (k9 (nd_at ND 10 13) vLv8), at1 rfl, Nat.zero_le _, ?_⟩
              intro e3 he3
              have s10 := same_upd (o := .lst []) he3
              refine ⟨.list ((L.filter fun k => !decide (seatN k = v)).map stD), .list [], .lst (SqL.of (s10 _ _ vlv9)) (hL9.imp fun a zs z => sqt_same s10 z).dps, .lst (SqL.of upd_same) .nil, shaped_lsts _, by decide, _, rfl, ?_⟩
              rw [eqv_nil]
              have mn : m ≠ none := fun hm => by
                have := dat.non hm
                rw [this] at hnx
                exact absurd hnx List.not_mem_nil
              have pos := gone_pos hf mn
              obtain ⟨tx', ex', zx'⟩ := id tx
              subst ex'
              refine iteT' (by rw [decide_eq_false (fun z => by rw [z] at hnx; exact List.not_mem_nil hnx)]; rfl) ?_
              refine ⟨_, rfl, _, rfl, Hd, _, _, _, rfl, rfl, SqL.of (s10 _ _ vHd9), at1 rfl, by show 2 ≤ sizeLine; decide, ?_⟩
              intro t2 ht2
              refine ⟨by show 1 ≤ sizeLine; decide, ?_⟩
              intro E2 hE2
              have s11 := s10.trans (same_upd (o := .tup [.str "vote", .ref tx']) ht2)
              have s12 := s11.trans (same_upd (o := .lst [.ref t2]) hE2)
              obtain ⟨GB, hGB⟩ : ∃ GB, GB = upd (upd (upd G9 e3 (.lst [])) t2 (.tup [.str "vote", .ref tx'])) E2 (.lst [.ref t2]) := ⟨_, rfl⟩
              have sB : Same G9 GB := by rw [hGB]; exact s12
              have vt2 : GB t2 = some (.tup [.str "vote", .ref tx']) := by rw [hGB]; exact same_upd hE2 _ _ upd_same
              have vE2 : GB E2 = some (.lst [.ref t2]) := by rw [hGB]; exact upd_same
              have cB : ChgS SS G3 GB := c9.trans (Same.s sB)
              have hpB : GB p1 = some (.ins C dx1 (deskF h (.ref qa) b)) := sB _ _ (k9 (nd_at ND 15 13) (k8 (nd_at ND 15 7) hpA))
              rw [← hGB]
              have snx : StN nx := hL8.st nx hnx
              have hxB : TupI K GB (.ref tx') nx := ⟨tx', rfl, sqt_same sB (i89 _ _ zx')⟩
              have iB : ∀ a xs, SqT K G3 a xs → SqT K GB a xs := fun _ _ z => sqt_chgS cB nt z
              have hDB : DeedAt K GB t _ := hD.imp iB
              have oDB := cB _ _ (notin (nd_at ND 14 15) (nd_at ND 14 13) (nd_at ND 14 10) (nd_at ND 14 7) (nd_at ND 14 8) (nd_at ND 14 5) (nd_at ND 14 2)) W3.oD
              have hqB := iB _ _ hq
              have hMB : Sts K GB ys M := hM.imp iB
              have hhB : HeldV K GB h m := hh.imp iB
              have holdB : HoldM K GB h M m := by
                rcases hhB with ⟨e1, e2⟩ | z
                · refine .inl ⟨e1, ?_, e2⟩
                  have d2 := dat
                  rw [e2] at d2
                  exact d2.mnone
                · exact .inr z
              have lenM : M.length < 63 := by
                have := dat.pm.length_eq
                have l2 := List.length_filter_le (fun k => !decide (m = some k)) L
                omega
              refine ⟨_, rfl, _, rfl, D, _, _, _, rfl, rfl, SqL.of oDB, at1 rfl, _, rfl, p1, t, dx1, h, .ref qa, b, _, rfl, hpB, hDB, ?_⟩
              refine ⟨p1, dx1, qa, h, b, ys, M, m, v, rfl, hpB, hqB, hMB, holdB, lenM, ?_⟩
              rw [if_pos pos]
              intro l6 H6 hl6 ch out
              have pL := gone_perm datA pos
              have upM1 := up_filter datA.up (fun k => !decide (seatN k = v))
              have ndL : ((L.filter fun k => !decide (seatN k = v))).Nodup := datA.nd.filter _
              have subL : ∀ k ∈ (L.filter fun k => !decide (seatN k = v)), k ∈ CA := fun k hk => datA.sub k (List.mem_filter.mp hk).1
              rcases out with ⟨z, _⟩ | ⟨t6, x6, nx6, r6, M6, q6, eM1, hl6v, ht6, hx6, sx6, hq6, hM6, hp6'⟩
              · rw [z] at pL
                rw [List.Perm.eq_nil pL.symm] at hnx
                exact absurd hnx List.not_mem_nil
              rw [eM1] at pL upM1
              have enx := min_first pL upM1 (fun k hk => hL8.st k hk) hnx least
              subst enx
              have c6' : ChgS SS G3 H6 := cB.trans (Chg.s ch (mem (by simp)))
              have iH : ∀ a xs, SqT K GB a xs → SqT K H6 a xs := fun _ _ z => sqt_chgI hpB ch z
              have i3H : ∀ a xs, SqT K G3 a xs → SqT K H6 a xs := fun _ _ z => sqt_chgS c6' nt z
              have nEp : E2 ≠ p1 := ne_of vE2 hpB (by intro z; cases z)
              have vEH := ch _ _ nEp vE2
              have hxH : TupI K H6 (.ref tx') nx6 := by obtain ⟨_, e1, z⟩ := hxB; exact ⟨_, e1, iH _ _ z⟩
              refine ⟨_, rfl, _, _, rfl, .inr ⟨l6, E2, [.ref t6], [.ref t2], _, 2, rfl, rfl, hl6v, vEH, dp_due ht6 hx6, dp_due (iH _ _ (SqT.of vt2)) hxH, rfl, by show 1 < 10000; decide, lv_due _ (by rw [sx6.1]; decide)⟩, ?_⟩
              refine ⟨_, rfl, iteF' rfl ?_⟩
              have e2SS : e2 ∉ SS := notin (ne_of_none hpA he2).symm (ne_of_none oHA he2).symm (ne_of_none vLvA he2).symm (ne_of_none oSA he2).symm (ne_of_none hsnA he2).symm (ne_of_none hcmA he2).symm (ne_of_none hgnA he2).symm
              have e23 : G3 e2 = none := cA.back he2 e2SS
              have e2lv : e2 ≠ lv' := (ne_of_none vlvA he2).symm
              have nd1 : [l, Gn, gn1, gn0, Cm, cm1, cm0, Sn, sn1, sn0, Lv, lv', lv0, Hd, D, p1, p0].Nodup := by
                rcases nl with e1 | e1
                · rw [e1]; exact ND
                · exact nd_set 11 ND fun mm => all _ mm (by
                    cases z : G3 lv' with
                    | none => rfl
                    | some o => rw [s4 _ _ z] at e1; cases e1)
              have nd2 : [l, Gn, gn1, gn0, Cm, cm1, cm0, Sn, e2, sn0, Lv, lv', lv0, Hd, D, p1, p0].Nodup := nd_set 8 nd1 fun mm => by
                have mm' : e2 ∈ [l, Gn, gn1, gn0, Cm, cm1, cm0, Sn, sn1, sn0, Lv, lv1, lv0, Hd, D, p1, p0].set 11 lv' := mm
                rcases List.mem_or_eq_of_mem_set mm' with z | z
                · exact all _ z e23
                · exact e2lv z
              have lst_ne : ∀ {y : Addr} {zs : List V}, GB y = some (.lst zs) → y ≠ p1 := fun h => ne_of h hpB (by intro z; cases z)
              have vlvB := sB _ _ vlv9
              have vlvH := ch _ _ (lst_ne vlvB) vlvB
              have ve2B := sB _ _ (k9 ne2H ve2)
              have ve2H := ch _ _ (lst_ne ve2B) ve2B
              have vcmB := sB _ _ (k9 (nd_at ND 5 13) (k8 (nd_at ND 5 7) hcmA))
              have vcmH := ch _ _ (lst_ne vcmB) vcmB
              have vgnB := sB _ _ (k9 (nd_at ND 2 13) (k8 (nd_at ND 2 7) hgnA))
              have vgnH := ch _ _ (lst_ne vgnB) vgnB
              have oHH := ch _ _ (lst_ne (sB _ _ vHd9)) (sB _ _ vHd9)
              have oLH := ch _ _ (nd_at ND 10 15) (sB _ _ (k9 (nd_at ND 10 13) vLv8))
              have oSH := ch _ _ (nd_at ND 7 15) (sB _ _ (k9 (nd_at ND 7 13) vSn8))
              have hLH : Sts K H6 ls' (L.filter fun k => !decide (seatN k = v)) := hL9.imp fun a zs z => iH _ _ (sqt_same sB z)
              have hCH : Sts K H6 csA CA := hCA.imp fun a zs z => iH _ _ (sqt_same sB (i89 _ _ (iA8 _ _ z)))
              have dN : Dk K C H6 p1 dx1 (.ref tx') lv' e2 cm1 gn1 (j + 1) := ⟨.ref x6, q6, false, r6, ls', [], csA, M6, (L.filter fun k => !decide (seatN k = v)), [], CA, gsA, some nx6, hp6', .inr ⟨x6, nx6, rfl, hx6, sx6, rfl⟩, .inr ⟨tx', nx6, rfl, hxH, sx6, rfl⟩, hq6, hM6, vlvH, hLH, ve2H, .nil, vcmH, hCH, vgnH,
                (by simp), Dat.first ndL pL upM1 subL, (fun z => by cases z), lenLB, Nat.zero_le _, lCA, lgA⟩
              have hB := (W3.d0.next.chg c6' nt (notin (nd_at ND 16 15) (nd_at ND 16 13) (nd_at ND 16 10) (nd_at ND 16 7) (nd_at ND 16 8) (nd_at ND 16 5) (nd_at ND 16 2)) (notin (nd_at ND 12 15) (nd_at ND 12 13) (nd_at ND 12 10) (nd_at ND 12 7) (nd_at ND 12 8) (nd_at ND 12 5) (nd_at ND 12 2))
                (notin (nd_at ND 9 15) (nd_at ND 9 13) (nd_at ND 9 10) (nd_at ND 9 7) (nd_at ND 9 8) (nd_at ND 9 5) (nd_at ND 9 2)) (notin (nd_at ND 6 15) (nd_at ND 6 13) (nd_at ND 6 10) (nd_at ND 6 7) (nd_at ND 6 8) (nd_at ND 6 5) (nd_at ND 6 2))
                (notin (nd_at ND 3 15) (nd_at ND 3 13) (nd_at ND 3 10) (nd_at ND 3 7) (nd_at ND 3 8) (nd_at ND 3 5) (nd_at ND 3 2)))
              have WN : Wd K C H6 cs l D Hd Lv Sn Cm Gn p0 p1 dx0 dx1 hv0 _ lv0 lv' sn0 e2 cm0 cm1 gn0 gn1 (j + 1) := {
                nd := nd2
                ol := c6' _ _ (notin (nd_at ND 0 15) (nd_at ND 0 13) (nd_at ND 0 10) (nd_at ND 0 7) (nd_at ND 0 8) (nd_at ND 0 5) (nd_at ND 0 2)) W3.ol
                oD := c6' _ _ (notin (nd_at ND 14 15) (nd_at ND 14 13) (nd_at ND 14 10) (nd_at ND 14 7) (nd_at ND 14 8) (nd_at ND 14 5) (nd_at ND 14 2)) W3.oD
                oH := oHH
                oL := oLH
                oS := oSH
                oC := c6' _ _ (notin (nd_at ND 4 15) (nd_at ND 4 13) (nd_at ND 4 10) (nd_at ND 4 7) (nd_at ND 4 8) (nd_at ND 4 5) (nd_at ND 4 2)) W3.oC
                oG := c6' _ _ (notin (nd_at ND 1 15) (nd_at ND 1 13) (nd_at ND 1 10) (nd_at ND 1 7) (nd_at ND 1 8) (nd_at ND 1 5) (nd_at ND 1 2)) W3.oG
                d1 := dN
                d0 := hB }
              exact last_look WN j1 (fun σ' G' hσ s' => ⟨hσ, _, _, _, _, _, _, WN.same s'⟩)
          | false =>
            skip
            refine iteF ?_
            refine ⟨_, rfl, t, _, _, _, rfl, rfl, hDA, at0 rfl, rfl, _, rfl, ?_⟩
            rw [dec_str]
            refine iteF' (by decide +kernel) ?_
            obtain ⟨GB, hGB⟩ : ∃ GB, GB = GA := ⟨_, rfl⟩
            have cB := cA; have hpB := hpA; have veB := veA
            rw [← hGB] at cB hpB veB
            rw [← hGB]
            have iB : ∀ a xs, SqT K G3 a xs → SqT K GB a xs := fun _ _ z => sqt_chgS cB nt z
            have hDB : DeedAt K GB t _ := hD.imp iB
            have oDB := cB _ _ (notin (nd_at ND 14 15) (nd_at ND 14 13) (nd_at ND 14 10) (nd_at ND 14 7) (nd_at ND 14 8) (nd_at ND 14 5) (nd_at ND 14 2)) W3.oD
            have hqB := iB _ _ hq
            have hMB : Sts K GB ys M := hM.imp iB
            have hhB : HeldV K GB h m := hh.imp iB
            have holdB : HoldM K GB h M m := by
              rcases hhB with ⟨e1, e2⟩ | z
              · refine .inl ⟨e1, ?_, e2⟩
                have d2 := dat
                rw [e2] at d2
                exact d2.mnone
              · exact .inr z
            have lenM : M.length < 63 := by
              have := dat.pm.length_eq
              have l2 := List.length_filter_le (fun k => !decide (m = some k)) L
              omega
            refine ⟨_, rfl, _, rfl, D, _, _, _, rfl, rfl, SqL.of oDB, at1 rfl, _, rfl, p1, t, dx1, h, .ref qa, b, _, rfl, hpB, hDB, ?_⟩
            obtain ⟨k, hk, gk, neg⟩ := gone_neg hf
            refine ⟨p1, dx1, qa, h, b, ys, M, m, v, rfl, hpB, hqB, hMB, holdB, lenM, ?_⟩
            rw [if_neg neg]
            intro l6 H6 hl6 ch out
            obtain ⟨hl6v, q6, ys6, hq6, hM6, hp6'⟩ := out
            have datN := datF k hk gk
            have c6' : ChgS SS G3 H6 := cB.trans (Chg.s ch (mem (by simp)))
            have iH : ∀ a xs, SqT K GB a xs → SqT K H6 a xs := fun _ _ z => sqt_chgI hpB ch z
            have i3H : ∀ a xs, SqT K G3 a xs → SqT K H6 a xs := fun _ _ z => sqt_chgS c6' nt z
            have nEp : e ≠ p1 := ne_of veB hpB (by intro z; cases z)
            have vEH := ch _ _ nEp veB
            refine ⟨_, rfl, _, _, rfl, .inr ⟨l6, e, [], [], [], 2, rfl, rfl, hl6v, vEH, .nil, .nil, rfl, by decide, fun _ z => absurd z List.not_mem_nil⟩, ?_⟩
            refine ⟨_, rfl, iteF' rfl ?_⟩
            have nd1 : [l, Gn, gn1, gn0, Cm, cm1, cm0, Sn, sn1, sn0, Lv, lv', lv0, Hd, D, p1, p0].Nodup := by
              rcases nl with e1 | e1
              · rw [e1]; exact ND
              · exact nd_set 11 ND fun mm => all _ mm (by
                  cases z : G3 lv' with
                  | none => rfl
                  | some o => rw [s4 _ _ z] at e1; cases e1)
            have nd2 := nd1
            have lst_ne : ∀ {y : Addr} {zs : List V}, GB y = some (.lst zs) → y ≠ p1 := fun h => ne_of h hpB (by intro z; cases z)
            rw [← hGB] at vlvA hsnA hcmA hgnA oHA oSA vLvA
            have vlvH := ch _ _ (lst_ne vlvA) vlvA
            have vsnH := ch _ _ (lst_ne hsnA) hsnA
            have vcmH := ch _ _ (lst_ne hcmA) hcmA
            have vgnH := ch _ _ (lst_ne hgnA) hgnA
            have oHH := ch _ _ (nd_at ND 13 15) oHA
            have oLH := ch _ _ (nd_at ND 10 15) vLvA
            have oSH := ch _ _ (nd_at ND 7 15) oSA
            rw [← hGB] at hLA hCA
            have hLH : Sts K H6 ls' (L.filter fun k => !decide (seatN k = v)) := hLA.imp iH
            have hCH : Sts K H6 csA CA := hCA.imp iH
            have dN : Dk K C H6 p1 dx1 hv1 lv' sn1 cm1 gn1 (j + 1) := ⟨h, q6, b, ys6, ls', zs, csA, (M.filter fun k => !decide (seatN k = v)), (L.filter fun k => !decide (seatN k = v)), Z, CA, gsA, m, hp6', hh.imp i3H, hhv.imp i3H, hq6, hM6, vlvH, hLH, vsnH, hZ.imp i3H, vcmH, hCH, vgnH,
              hbz, datN, zn, lenLB, by omega, lCA, lgA⟩
            have hB := (W3.d0.next.chg c6' nt (notin (nd_at ND 16 15) (nd_at ND 16 13) (nd_at ND 16 10) (nd_at ND 16 7) (nd_at ND 16 8) (nd_at ND 16 5) (nd_at ND 16 2)) (notin (nd_at ND 12 15) (nd_at ND 12 13) (nd_at ND 12 10) (nd_at ND 12 7) (nd_at ND 12 8) (nd_at ND 12 5) (nd_at ND 12 2))
              (notin (nd_at ND 9 15) (nd_at ND 9 13) (nd_at ND 9 10) (nd_at ND 9 7) (nd_at ND 9 8) (nd_at ND 9 5) (nd_at ND 9 2)) (notin (nd_at ND 6 15) (nd_at ND 6 13) (nd_at ND 6 10) (nd_at ND 6 7) (nd_at ND 6 8) (nd_at ND 6 5) (nd_at ND 6 2))
              (notin (nd_at ND 3 15) (nd_at ND 3 13) (nd_at ND 3 10) (nd_at ND 3 7) (nd_at ND 3 8) (nd_at ND 3 5) (nd_at ND 3 2)))
            have WN : Wd K C H6 cs l D Hd Lv Sn Cm Gn p0 p1 dx0 dx1 hv0 hv1 lv0 lv' sn0 sn1 cm0 cm1 gn0 gn1 (j + 1) := {
              nd := nd2
              ol := c6' _ _ (notin (nd_at ND 0 15) (nd_at ND 0 13) (nd_at ND 0 10) (nd_at ND 0 7) (nd_at ND 0 8) (nd_at ND 0 5) (nd_at ND 0 2)) W3.ol
              oD := c6' _ _ (notin (nd_at ND 14 15) (nd_at ND 14 13) (nd_at ND 14 10) (nd_at ND 14 7) (nd_at ND 14 8) (nd_at ND 14 5) (nd_at ND 14 2)) W3.oD
              oH := oHH
              oL := oLH
              oS := oSH
              oC := c6' _ _ (notin (nd_at ND 4 15) (nd_at ND 4 13) (nd_at ND 4 10) (nd_at ND 4 7) (nd_at ND 4 8) (nd_at ND 4 5) (nd_at ND 4 2)) W3.oC
              oG := c6' _ _ (notin (nd_at ND 1 15) (nd_at ND 1 13) (nd_at ND 1 10) (nd_at ND 1 7) (nd_at ND 1 8) (nd_at ND 1 5) (nd_at ND 1 2)) W3.oG
              d1 := dN
              d0 := hB }
            exact last_look WN j1 (fun σ' G' hσ s' => ⟨hσ, _, _, _, _, _, _, WN.same s'⟩)
      · exact last_look W3.next j1 (fun σ' G' hσ s' => ⟨hσ, _, _, _, _, _, _, W3.next.same s'⟩)
  · rintro σ G ⟨⟨z1, z2, z3, z4, z5, z6, z7, z8, z9, z10, z11, rfl⟩, _⟩
    exact q G
end

end G0
namespace G0
open PySem PySem.Spec PyProof.Rows L2
theorem me_of {P : Program} {w : World} {K : PySem.W.Frag} {mg : Str → Option Value} {base : Heap} {C : Addr} {x qual : Str} {st : Stmt} {k : Nat} {ps : List Str} {sp : Sp}
    (F : Fm K C x qual st) (ok : ∀ f fd, Fun K x qual st f fd → FnOk P w K mg base CX0 k f fd ps sp)
    (bd : ∀ (kV doc pm : Value) (an : Option Addr) (cdv ct : Value) (us : List Value), us.length = ps.length →
      bindArgs (PySem.W.fnOf x qual (defArgs st) (defBody st) (defScope st) .none kV doc pm an cdv ct) ⟨us, []⟩ = pure (ps.zip us)) :
    Me P w K mg base C x k ps sp := by
  obtain ⟨f, fd, F, m⟩ := F
  exact ⟨f, fd, ok f fd F, F.binds bd, m⟩
theorem whole {P : Program} {w : World} {K : PySem.W.Frag} {mg : Str → Option Value} {base : Heap} {C : Addr} (T : BlD mg) (S : DeskT K mg C)
    (F_draws : Fn K mg "_law_draws" s_law_draws) (F_same : Fn K mg "_law_same" s_law_same) (F_stamp : Fn K mg "_law_stamp" s_law_stamp)
    (F_desk : Fn K mg "_law_desk" s_law_desk) (F_deed : Fn K mg "_law_deed" s_law_deed) (F_fits : Fn K mg "_law_fits" s_law_fits) (F_told : Fn K mg "_law_told" s_law_told)
    (F_live : Fn K mg "_law_live_behind" s_law_live_behind) (F_freed : Fn K mg "_law_freed" s_law_freed) (F_cells : Fn K mg "_law_cells" s_law_cells) (F_law : Fn K mg "law" s_law)
    (M_init : Fm K C "__init__" "Desk.__init__" s_Desk__init) (M_ask : Fm K C "take_ask" "Desk.take_ask" s_Desk_take_ask) (M_given : Fm K C "take_given" "Desk.take_given" s_Desk_take_given)
    (M_done : Fm K C "take_done" "Desk.take_done" s_Desk_take_done) (M_gone : Fm K C "take_gone" "Desk.take_gone" s_Desk_take_gone)
    (M_len : Fm K C "__len__" "Desk.__len__" s_Desk__len) (M_free : Fm K C "_free" "Desk._free" s_Desk_free) (M_give : Fm K C "_give_the_free_vote" "Desk._give_the_free_vote" s_Desk_give_the_free_vote)
    (mk : PySem.W.makesIn K C = true) (kc : PySem.W.keepIn K (.ref C) = true) : Cal P w K mg base "law" 6 ["script"] (spLaw K) := by
  have V := me_of (P := P) (w := w) (mg := mg) (base := base) (ps := ["self"]) M_give (fun f fd F => ok_give F T S) (fun _ _ _ _ _ _ us hl => match us, hl with | [_], _ => rfl) 
  have Fr := me_of (P := P) (w := w) (mg := mg) (base := base) (ps := ["self"]) M_free (fun f fd F => ok_free F S) (fun _ _ _ _ _ _ us hl => match us, hl with | [_], _ => rfl) 
  have A := me_of (P := P) (w := w) (mg := mg) (base := base) (ps := ["self", "stamp"]) M_ask (fun f fd F => ok_ask F T S V) (fun _ _ _ _ _ _ us hl => match us, hl with | [_, _], _ => rfl) 
  have Gi := me_of (P := P) (w := w) (mg := mg) (base := base) (ps := ["self", "stamp"]) M_given (fun f fd F => ok_given F T S V Fr) (fun _ _ _ _ _ _ us hl => match us, hl with | [_, _], _ => rfl) 
  have Do := me_of (P := P) (w := w) (mg := mg) (base := base) (ps := ["self", "stamp"]) M_done (fun f fd F => ok_done F T S V Fr) (fun _ _ _ _ _ _ us hl => match us, hl with | [_, _], _ => rfl) 
  have Go := me_of (P := P) (w := w) (mg := mg) (base := base) (ps := ["self", "seat"]) M_gone (fun f fd F => ok_gone F T S V Fr) (fun _ _ _ _ _ _ us hl => match us, hl with | [_, _], _ => rfl) 
  have L := me_of (P := P) (w := w) (mg := mg) (base := base) (ps := ["self"]) M_len (fun f fd F => ok_dlen F T S) (fun _ _ _ _ _ _ us hl => match us, hl with | [_], _ => rfl) 
  have I := me_of (P := P) (w := w) (mg := mg) (base := base) (ps := ["self"]) M_init (fun f fd F => ok_dinit F S) (fun _ _ _ _ _ _ us hl => match us, hl with | [_], _ => rfl) 
  obtain ⟨f, fd, GI, bI, mI⟩ := I
  exact ok_law F_law T S (ok_desk F_desk T S (ok_sames F_same T 3) L) (ok_cells F_cells T) (ok_stamp F_stamp) (ok_draws F_draws T) (ok_deed F_deed T) (ok_fits F_fits) (ok_told F_told S A Gi Do Go) (ok_liveb F_live) (ok_freed F_freed) (ok_sames F_same T 3) ⟨f, fd, GI, bI, ⟨mk, mI.at_, mI.fn, kc⟩⟩
theorem all_mk {P : Program} {w : World} {K : PySem.W.Frag} {h : Heap} {mg : Str → Option Value} {fa : Addr}
    {C_Desk : Addr} {f1 : Addr} {od1 an1 : Option Addr} {sl1 : Array (Option Value)} {oc1 kV1 dc1 pm1 cd1 ct1 : Value} {f2 : Addr} {od2 an2 : Option Addr} {sl2 : Array (Option Value)} {oc2 kV2 dc2 pm2 cd2 ct2 : Value} {f3 : Addr} {od3 an3 : Option Addr} {sl3 : Array (Option Value)} {oc3 kV3 dc3 pm3 cd3 ct3 : Value} {f4 : Addr} {od4 an4 : Option Addr} {sl4 : Array (Option Value)} {oc4 kV4 dc4 pm4 cd4 ct4 : Value} {f5 : Addr} {od5 an5 : Option Addr} {sl5 : Array (Option Value)} {oc5 kV5 dc5 pm5 cd5 ct5 : Value} {f6 : Addr} {od6 an6 : Option Addr} {sl6 : Array (Option Value)} {oc6 kV6 dc6 pm6 cd6 ct6 : Value} {f7 : Addr} {od7 an7 : Option Addr} {sl7 : Array (Option Value)} {oc7 kV7 dc7 pm7 cd7 ct7 : Value} {f8 : Addr} {od8 an8 : Option Addr} {sl8 : Array (Option Value)} {oc8 kV8 dc8 pm8 cd8 ct8 : Value} {f9 : Addr} {od9 an9 : Option Addr} {sl9 : Array (Option Value)} {oc9 kV9 dc9 pm9 cd9 ct9 : Value} {f10 : Addr} {od10 an10 : Option Addr} {sl10 : Array (Option Value)} {oc10 kV10 dc10 pm10 cd10 ct10 : Value} {f11 : Addr} {od11 an11 : Option Addr} {sl11 : Array (Option Value)} {oc11 kV11 dc11 pm11 cd11 ct11 : Value} {f12 : Addr} {od12 an12 : Option Addr} {sl12 : Array (Option Value)} {oc12 kV12 dc12 pm12 cd12 ct12 : Value} {f13 : Addr} {od13 an13 : Option Addr} {sl13 : Array (Option Value)} {oc13 kV13 dc13 pm13 cd13 ct13 : Value} {f14 : Addr} {od14 an14 : Option Addr} {sl14 : Array (Option Value)} {oc14 kV14 dc14 pm14 cd14 ct14 : Value} {f15 : Addr} {od15 an15 : Option Addr} {sl15 : Array (Option Value)} {oc15 kV15 dc15 pm15 cd15 ct15 : Value} {f16 : Addr} {od16 an16 : Option Addr} {sl16 : Array (Option Value)} {oc16 kV16 dc16 pm16 cd16 ct16 : Value} {f17 : Addr} {od17 an17 : Option Addr} {sl17 : Array (Option Value)} {oc17 kV17 dc17 pm17 cd17 ct17 : Value} {f18 : Addr} {od18 an18 : Option Addr} {sl18 : Array (Option Value)} {oc18 kV18 dc18 pm18 cd18 ct18 : Value} {f19 : Addr} {od19 an19 : Option Addr} {sl19 : Array (Option Value)} {oc19 kV19 dc19 pm19 cd19 ct19 : Value}
    (X : K.In h) (G : h.Ns mainGlobals mg) (hfa : mg "law" = some (.ref fa))
    (aC_Desk : PySem.W.nsIn K mainGlobals "Desk" = some (some (.ref C_Desk)))
    (pg_Desk : PySem.W.plainGet K C_Desk Str.empty = true)
    (hd_Desk : PySem.W.hasDictIn K C_Desk = true)
    (po_Desk : PySem.W.plainOver K C_Desk = true)
    (sa_Desk : PySem.W.findIn K (.ref C_Desk) "__setattr__" = some (some (.builtin "object.__setattr__")))
    (mk_Desk : PySem.W.makesIn K C_Desk = true)
    (kc_Desk : PySem.W.keepIn K (.ref C_Desk) = true)
    (a1 : PySem.W.nsIn K mainGlobals "_law_draws" = some (some (.ref f1)))
    (l1 : K.lookup f1 = some ⟨oc1, od1, .func (PySem.W.fnOf "_law_draws" "_law_draws" (defArgs s_law_draws) (defBody s_law_draws) (defScope s_law_draws) .none kV1 dc1 pm1 an1 cd1 ct1), sl1⟩)
    (c1 : PySem.W.codeIn K cd1 "_law_draws" = true)
    (k1 : PySem.W.keepIn K (.ref f1) = true)
    (a2 : PySem.W.nsIn K mainGlobals "_law_same" = some (some (.ref f2)))
    (l2 : K.lookup f2 = some ⟨oc2, od2, .func (PySem.W.fnOf "_law_same" "_law_same" (defArgs s_law_same) (defBody s_law_same) (defScope s_law_same) .none kV2 dc2 pm2 an2 cd2 ct2), sl2⟩)
    (c2 : PySem.W.codeIn K cd2 "_law_same" = true)
    (k2 : PySem.W.keepIn K (.ref f2) = true)
    (a3 : PySem.W.nsIn K mainGlobals "_law_stamp" = some (some (.ref f3)))
    (l3 : K.lookup f3 = some ⟨oc3, od3, .func (PySem.W.fnOf "_law_stamp" "_law_stamp" (defArgs s_law_stamp) (defBody s_law_stamp) (defScope s_law_stamp) .none kV3 dc3 pm3 an3 cd3 ct3), sl3⟩)
    (c3 : PySem.W.codeIn K cd3 "_law_stamp" = true)
    (k3 : PySem.W.keepIn K (.ref f3) = true)
    (a4 : PySem.W.nsIn K mainGlobals "_law_desk" = some (some (.ref f4)))
    (l4 : K.lookup f4 = some ⟨oc4, od4, .func (PySem.W.fnOf "_law_desk" "_law_desk" (defArgs s_law_desk) (defBody s_law_desk) (defScope s_law_desk) .none kV4 dc4 pm4 an4 cd4 ct4), sl4⟩)
    (c4 : PySem.W.codeIn K cd4 "_law_desk" = true)
    (k4 : PySem.W.keepIn K (.ref f4) = true)
    (a5 : PySem.W.nsIn K mainGlobals "_law_deed" = some (some (.ref f5)))
    (l5 : K.lookup f5 = some ⟨oc5, od5, .func (PySem.W.fnOf "_law_deed" "_law_deed" (defArgs s_law_deed) (defBody s_law_deed) (defScope s_law_deed) .none kV5 dc5 pm5 an5 cd5 ct5), sl5⟩)
    (c5 : PySem.W.codeIn K cd5 "_law_deed" = true)
    (k5 : PySem.W.keepIn K (.ref f5) = true)
    (a6 : PySem.W.nsIn K mainGlobals "_law_fits" = some (some (.ref f6)))
    (l6 : K.lookup f6 = some ⟨oc6, od6, .func (PySem.W.fnOf "_law_fits" "_law_fits" (defArgs s_law_fits) (defBody s_law_fits) (defScope s_law_fits) .none kV6 dc6 pm6 an6 cd6 ct6), sl6⟩)
    (c6 : PySem.W.codeIn K cd6 "_law_fits" = true)
    (k6 : PySem.W.keepIn K (.ref f6) = true)
    (a7 : PySem.W.nsIn K mainGlobals "_law_told" = some (some (.ref f7)))
    (l7 : K.lookup f7 = some ⟨oc7, od7, .func (PySem.W.fnOf "_law_told" "_law_told" (defArgs s_law_told) (defBody s_law_told) (defScope s_law_told) .none kV7 dc7 pm7 an7 cd7 ct7), sl7⟩)
    (c7 : PySem.W.codeIn K cd7 "_law_told" = true)
    (k7 : PySem.W.keepIn K (.ref f7) = true)
    (a8 : PySem.W.nsIn K mainGlobals "_law_live_behind" = some (some (.ref f8)))
    (l8 : K.lookup f8 = some ⟨oc8, od8, .func (PySem.W.fnOf "_law_live_behind" "_law_live_behind" (defArgs s_law_live_behind) (defBody s_law_live_behind) (defScope s_law_live_behind) .none kV8 dc8 pm8 an8 cd8 ct8), sl8⟩)
    (c8 : PySem.W.codeIn K cd8 "_law_live_behind" = true)
    (k8 : PySem.W.keepIn K (.ref f8) = true)
    (a9 : PySem.W.nsIn K mainGlobals "_law_freed" = some (some (.ref f9)))
    (l9 : K.lookup f9 = some ⟨oc9, od9, .func (PySem.W.fnOf "_law_freed" "_law_freed" (defArgs s_law_freed) (defBody s_law_freed) (defScope s_law_freed) .none kV9 dc9 pm9 an9 cd9 ct9), sl9⟩)
    (c9 : PySem.W.codeIn K cd9 "_law_freed" = true)
    (k9 : PySem.W.keepIn K (.ref f9) = true)
    (a10 : PySem.W.nsIn K mainGlobals "_law_cells" = some (some (.ref f10)))
    (l10 : K.lookup f10 = some ⟨oc10, od10, .func (PySem.W.fnOf "_law_cells" "_law_cells" (defArgs s_law_cells) (defBody s_law_cells) (defScope s_law_cells) .none kV10 dc10 pm10 an10 cd10 ct10), sl10⟩)
    (c10 : PySem.W.codeIn K cd10 "_law_cells" = true)
    (k10 : PySem.W.keepIn K (.ref f10) = true)
    (a11 : PySem.W.nsIn K mainGlobals "law" = some (some (.ref f11)))
    (l11 : K.lookup f11 = some ⟨oc11, od11, .func (PySem.W.fnOf "law" "law" (defArgs s_law) (defBody s_law) (defScope s_law) .none kV11 dc11 pm11 an11 cd11 ct11), sl11⟩)
    (c11 : PySem.W.codeIn K cd11 "law" = true)
    (k11 : PySem.W.keepIn K (.ref f11) = true)
    (a12 : PySem.W.findIn K (.ref C_Desk) "__init__" = some (some (.ref f12)))
    (i12 : PySem.W.isFn K (.ref f12) = true)
    (l12 : K.lookup f12 = some ⟨oc12, od12, .func (PySem.W.fnOf "__init__" "Desk.__init__" (defArgs s_Desk__init) (defBody s_Desk__init) (defScope s_Desk__init) .none kV12 dc12 pm12 an12 cd12 ct12), sl12⟩)
    (c12 : PySem.W.codeIn K cd12 "Desk.__init__" = true)
    (k12 : PySem.W.keepIn K (.ref f12) = true)
    (a13 : PySem.W.findIn K (.ref C_Desk) "take_ask" = some (some (.ref f13)))
    (i13 : PySem.W.isFn K (.ref f13) = true)
    (l13 : K.lookup f13 = some ⟨oc13, od13, .func (PySem.W.fnOf "take_ask" "Desk.take_ask" (defArgs s_Desk_take_ask) (defBody s_Desk_take_ask) (defScope s_Desk_take_ask) .none kV13 dc13 pm13 an13 cd13 ct13), sl13⟩)
    (c13 : PySem.W.codeIn K cd13 "Desk.take_ask" = true)
    (k13 : PySem.W.keepIn K (.ref f13) = true)
    (a14 : PySem.W.findIn K (.ref C_Desk) "take_given" = some (some (.ref f14)))
    (i14 : PySem.W.isFn K (.ref f14) = true)
    (l14 : K.lookup f14 = some ⟨oc14, od14, .func (PySem.W.fnOf "take_given" "Desk.take_given" (defArgs s_Desk_take_given) (defBody s_Desk_take_given) (defScope s_Desk_take_given) .none kV14 dc14 pm14 an14 cd14 ct14), sl14⟩)
    (c14 : PySem.W.codeIn K cd14 "Desk.take_given" = true)
    (k14 : PySem.W.keepIn K (.ref f14) = true)
    (a15 : PySem.W.findIn K (.ref C_Desk) "take_done" = some (some (.ref f15)))
    (i15 : PySem.W.isFn K (.ref f15) = true)
    (l15 : K.lookup f15 = some ⟨oc15, od15, .func (PySem.W.fnOf "take_done" "Desk.take_done" (defArgs s_Desk_take_done) (defBody s_Desk_take_done) (defScope s_Desk_take_done) .none kV15 dc15 pm15 an15 cd15 ct15), sl15⟩)
    (c15 : PySem.W.codeIn K cd15 "Desk.take_done" = true)
    (k15 : PySem.W.keepIn K (.ref f15) = true)
    (a16 : PySem.W.findIn K (.ref C_Desk) "take_gone" = some (some (.ref f16)))
    (i16 : PySem.W.isFn K (.ref f16) = true)
    (l16 : K.lookup f16 = some ⟨oc16, od16, .func (PySem.W.fnOf "take_gone" "Desk.take_gone" (defArgs s_Desk_take_gone) (defBody s_Desk_take_gone) (defScope s_Desk_take_gone) .none kV16 dc16 pm16 an16 cd16 ct16), sl16⟩)
    (c16 : PySem.W.codeIn K cd16 "Desk.take_gone" = true)
    (k16 : PySem.W.keepIn K (.ref f16) = true)
    (a17 : PySem.W.findIn K (.ref C_Desk) "__len__" = some (some (.ref f17)))
    (i17 : PySem.W.isFn K (.ref f17) = true)
    (l17 : K.lookup f17 = some ⟨oc17, od17, .func (PySem.W.fnOf "__len__" "Desk.__len__" (defArgs s_Desk__len) (defBody s_Desk__len) (defScope s_Desk__len) .none kV17 dc17 pm17 an17 cd17 ct17), sl17⟩)
    (c17 : PySem.W.codeIn K cd17 "Desk.__len__" = true)
    (k17 : PySem.W.keepIn K (.ref f17) = true)
    (a18 : PySem.W.findIn K (.ref C_Desk) "_free" = some (some (.ref f18)))
    (i18 : PySem.W.isFn K (.ref f18) = true)
    (l18 : K.lookup f18 = some ⟨oc18, od18, .func (PySem.W.fnOf "_free" "Desk._free" (defArgs s_Desk_free) (defBody s_Desk_free) (defScope s_Desk_free) .none kV18 dc18 pm18 an18 cd18 ct18), sl18⟩)
    (c18 : PySem.W.codeIn K cd18 "Desk._free" = true)
    (k18 : PySem.W.keepIn K (.ref f18) = true)
    (a19 : PySem.W.findIn K (.ref C_Desk) "_give_the_free_vote" = some (some (.ref f19)))
    (i19 : PySem.W.isFn K (.ref f19) = true)
    (l19 : K.lookup f19 = some ⟨oc19, od19, .func (PySem.W.fnOf "_give_the_free_vote" "Desk._give_the_free_vote" (defArgs s_Desk_give_the_free_vote) (defBody s_Desk_give_the_free_vote) (defScope s_Desk_give_the_free_vote) .none kV19 dc19 pm19 an19 cd19 ct19), sl19⟩)
    (c19 : PySem.W.codeIn K cd19 "Desk._give_the_free_vote" = true)
    (k19 : PySem.W.keepIn K (.ref f19) = true)
    (n_Desk_holder : PySem.W.findIn K (.ref C_Desk) "holder" = some none)
    (n_Desk_queue : PySem.W.findIn K (.ref C_Desk) "queue" = some none)
    (n_Desk_called : PySem.W.findIn K (.ref C_Desk) "called" = some none)
    (b_len : PySem.W.nsIn K mainGlobals "len" = some none)
    (b_range : PySem.W.nsIn K mainGlobals "range" = some none)
    (b_tuple : PySem.W.nsIn K mainGlobals "tuple" = some none)
    (b_list : PySem.W.nsIn K mainGlobals "list" = some none)
    (b_isinstance : PySem.W.nsIn K mainGlobals "isinstance" = some none)
    (b_bool : PySem.W.nsIn K mainGlobals "bool" = some none)
    (b_sorted : PySem.W.nsIn K mainGlobals "sorted" = some none)
    (b_sum : PySem.W.nsIn K mainGlobals "sum" = some none)
    (b_int : PySem.W.nsIn K mainGlobals "int" = some none)
    (b_min : PySem.W.nsIn K mainGlobals "min" = some none) :
    ∃ fd : FuncData, (∀ (s : Shared) (v : Value), BindsTo s fd ⟨[v], []⟩ [("script", v)]) ∧
      ∀ base : Heap, K.In base → base.Ns mainGlobals mg → FnG P w K mg base CX0 6 fa fd ["script"] (spLaw K) := by
  have F_law_draws : Fn K mg "_law_draws" s_law_draws := fn_top X G a1 l1 c1 k1
  have F_law_same : Fn K mg "_law_same" s_law_same := fn_top X G a2 l2 c2 k2
  have F_law_stamp : Fn K mg "_law_stamp" s_law_stamp := fn_top X G a3 l3 c3 k3
  have F_law_desk : Fn K mg "_law_desk" s_law_desk := fn_top X G a4 l4 c4 k4
  have F_law_deed : Fn K mg "_law_deed" s_law_deed := fn_top X G a5 l5 c5 k5
  have F_law_fits : Fn K mg "_law_fits" s_law_fits := fn_top X G a6 l6 c6 k6
  have F_law_told : Fn K mg "_law_told" s_law_told := fn_top X G a7 l7 c7 k7
  have F_law_live_behind : Fn K mg "_law_live_behind" s_law_live_behind := fn_top X G a8 l8 c8 k8
  have F_law_freed : Fn K mg "_law_freed" s_law_freed := fn_top X G a9 l9 c9 k9
  have F_law_cells : Fn K mg "_law_cells" s_law_cells := fn_top X G a10 l10 c10 k10
  have F_law : Fn K mg "law" s_law := fn_top X G a11 l11 c11 k11
  have M_Desk__init : Fm K C_Desk "__init__" "Desk.__init__" s_Desk__init := fm_top a12 i12 l12 c12 k12
  have M_Desk_take_ask : Fm K C_Desk "take_ask" "Desk.take_ask" s_Desk_take_ask := fm_top a13 i13 l13 c13 k13
  have M_Desk_take_given : Fm K C_Desk "take_given" "Desk.take_given" s_Desk_take_given := fm_top a14 i14 l14 c14 k14
  have M_Desk_take_done : Fm K C_Desk "take_done" "Desk.take_done" s_Desk_take_done := fm_top a15 i15 l15 c15 k15
  have M_Desk_take_gone : Fm K C_Desk "take_gone" "Desk.take_gone" s_Desk_take_gone := fm_top a16 i16 l16 c16 k16
  have M_Desk__len : Fm K C_Desk "__len__" "Desk.__len__" s_Desk__len := fm_top a17 i17 l17 c17 k17
  have M_Desk_free : Fm K C_Desk "_free" "Desk._free" s_Desk_free := fm_top a18 i18 l18 c18 k18
  have M_Desk_give_the_free_vote : Fm K C_Desk "_give_the_free_vote" "Desk._give_the_free_vote" s_Desk_give_the_free_vote := fm_top a19 i19 l19 c19 k19
  have B_len := PySem.W.mg_none_of X G b_len
  have B_range := PySem.W.mg_none_of X G b_range
  have B_tuple := PySem.W.mg_none_of X G b_tuple
  have B_list := PySem.W.mg_none_of X G b_list
  have B_isinstance := PySem.W.mg_none_of X G b_isinstance
  have B_bool := PySem.W.mg_none_of X G b_bool
  have B_sorted := PySem.W.mg_none_of X G b_sorted
  have B_sum := PySem.W.mg_none_of X G b_sum
  have B_int := PySem.W.mg_none_of X G b_int
  have B_min := PySem.W.mg_none_of X G b_min
  have T_Desk : Cls K C_Desk := ⟨pg_Desk, hd_Desk, po_Desk, sa_Desk⟩
  have G_Desk := PySem.W.mg_of X G aC_Desk
  exact law_end F_law hfa (fun _ _ _ _ _ _ s v => .of_eq rfl) fun base _ _ => whole ⟨B_len, B_range, B_tuple, B_list, B_isinstance, B_bool, B_sorted, B_sum, B_int, B_min⟩ ⟨T_Desk, n_Desk_holder, n_Desk_queue, n_Desk_called, G_Desk⟩
    F_law_draws F_law_same F_law_stamp F_law_desk F_law_deed F_law_fits F_law_told F_law_live_behind F_law_freed F_law_cells F_law M_Desk__init M_Desk_take_ask M_Desk_take_given M_Desk_take_done M_Desk_take_gone M_Desk__len M_Desk_free M_Desk_give_the_free_vote mk_Desk kc_Desk
end G0
open PySem PySem.W PyProof.Rows in
set_option maxRecDepth 100000 in
set_option maxHeartbeats 0 in
theorem PySem.Challenge.cw_soleseat_k62_whole_desk_holds : PySem.Challenge.rw_soleseat_k62_whole_desk.Holds := by
  w_on; o_law; k_head; (case hw => w_witness2)
  k_fill
  refine G0.walk_ofGB (l := PySem.Challenge.rw_soleseat_k62_whole_desk) (n := 63) (k := 6) (x := "script") (sp := G0.spLaw) rfl (by decide) rfl ⟨rfl, by decide, by decide⟩ (fun w h Y => PySem.W.kIn_of Y) ?F (fun K H a ns hl bits _ hS => ⟨a, ns, rfl, hS, hl, bits, fun _ => rfl⟩)
  case F =>
    intro w mg fa h KX G hmg
    refine' G0.all_mk KX G hmg ?aC_Desk ?pg_Desk ?hd_Desk ?po_Desk ?sa_Desk ?mk_Desk ?kc_Desk ?a1 ?l1 ?c1 ?k1 ?a2 ?l2 ?c2 ?k2 ?a3 ?l3 ?c3 ?k3 ?a4 ?l4 ?c4 ?k4 ?a5 ?l5 ?c5 ?k5 ?a6 ?l6 ?c6 ?k6 ?a7 ?l7 ?c7 ?k7 ?a8 ?l8 ?c8 ?k8 ?a9 ?l9 ?c9 ?k9 ?a10 ?l10 ?c10 ?k10 ?a11 ?l11 ?c11 ?k11 ?a12 ?i12 ?l12 ?c12 ?k12 ?a13 ?i13 ?l13 ?c13 ?k13 ?a14 ?i14 ?l14 ?c14 ?k14 ?a15 ?i15 ?l15 ?c15 ?k15 ?a16 ?i16 ?l16 ?c16 ?k16 ?a17 ?i17 ?l17 ?c17 ?k17 ?a18 ?i18 ?l18 ?c18 ?k18 ?a19 ?i19 ?l19 ?c19 ?k19 ?n_Desk_holder ?n_Desk_queue ?n_Desk_called ?b_len ?b_range ?b_tuple ?b_list ?b_isinstance ?b_bool ?b_sorted ?b_sum ?b_int ?b_min
    (case aC_Desk => k_is)
    (case pg_Desk => k_is)
    (case hd_Desk => k_is)
    (case po_Desk => k_is)
    (case sa_Desk => k_is)
    (case mk_Desk => k_is)
    (case kc_Desk => k_is)
    (case a1 => k_is)
    (case l1 => k_is)
    (case c1 => k_is)
    (case k1 => k_is)
    (case a2 => k_is)
    (case l2 => k_is)
    (case c2 => k_is)
    (case k2 => k_is)
    (case a3 => k_is)
    (case l3 => k_is)
    (case c3 => k_is)
    (case k3 => k_is)
    (case a4 => k_is)
    (case l4 => k_is)
    (case c4 => k_is)
    (case k4 => k_is)
    (case a5 => k_is)
    (case l5 => k_is)
    (case c5 => k_is)
    (case k5 => k_is)
    (case a6 => k_is)
    (case l6 => k_is)
    (case c6 => k_is)
    (case k6 => k_is)
    (case a7 => k_is)
    (case l7 => k_is)
    (case c7 => k_is)
    (case k7 => k_is)
    (case a8 => k_is)
    (case l8 => k_is)
    (case c8 => k_is)
    (case k8 => k_is)
    (case a9 => k_is)
    (case l9 => k_is)
    (case c9 => k_is)
    (case k9 => k_is)
    (case a10 => k_is)
    (case l10 => k_is)
    (case c10 => k_is)
    (case k10 => k_is)
    (case a11 => k_is)
    (case l11 => k_is)
    (case c11 => k_is)
    (case k11 => k_is)
    (case a12 => k_is)
    (case i12 => k_is)
    (case l12 => k_is)
    (case c12 => k_is)
    (case k12 => k_is)
    (case a13 => k_is)
    (case i13 => k_is)
    (case l13 => k_is)
    (case c13 => k_is)
    (case k13 => k_is)
    (case a14 => k_is)
    (case i14 => k_is)
    (case l14 => k_is)
    (case c14 => k_is)
    (case k14 => k_is)
    (case a15 => k_is)
    (case i15 => k_is)
    (case l15 => k_is)
    (case c15 => k_is)
    (case k15 => k_is)
    (case a16 => k_is)
    (case i16 => k_is)
    (case l16 => k_is)
    (case c16 => k_is)
    (case k16 => k_is)
    (case a17 => k_is)
    (case i17 => k_is)
    (case l17 => k_is)
    (case c17 => k_is)
    (case k17 => k_is)
    (case a18 => k_is)
    (case i18 => k_is)
    (case l18 => k_is)
    (case c18 => k_is)
    (case k18 => k_is)
    (case a19 => k_is)
    (case i19 => k_is)
    (case l19 => k_is)
    (case c19 => k_is)
    (case k19 => k_is)
    (case n_Desk_holder => k_is)
    (case n_Desk_queue => k_is)
    (case n_Desk_called => k_is)
    (case b_len => k_is)
    (case b_range => k_is)
    (case b_tuple => k_is)
    (case b_list => k_is)
    (case b_isinstance => k_is)
    (case b_bool => k_is)
    (case b_sorted => k_is)
    (case b_sum => k_is)
    (case b_int => k_is)
    (case b_min => k_is)
#print axioms PySem.Challenge.cw_soleseat_k62_whole_desk_holds
namespace G0

end G0
