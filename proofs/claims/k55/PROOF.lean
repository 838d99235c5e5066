import PyProof.Rows.All
import Wide.All
import OpenK.AllK
import Wide.FinOn
import KE.DatumIndex
import KE.GoesEnum
import KE.GoesMore
import PyProof.ReprRoads
import PyProof.ReprLen
import PyProof.StrLawsRepr
import HandS.ForMost
import HandS.WordsExc
import HandS.Wide
import HandS.Evl
import HandS.Style
import HandS.IsInst
import HandS.Conv
import HandS.Zip
import HandS.Rev
import HandS.TupMul
import HandS.TupAny
import HandS.TupLe
import HandS.Defaults
import HandS.DictComp
import HandS.TupSets
import HandS.WideBits
import PyProof.StrReplace2
import HandS.Head0
import HandS.Head1
import HandS.Head2
import HandS.HeadEnd
import HandS.HeadHook1
import HandS.HeadHook2
import PySem.Challenge.RW_stepforms_k55_rounds_by_kind
set_option Elab.async false
set_option linter.all false
set_option maxRecDepth 100000
set_option maxHeartbeats 4000000
namespace Gd
open PySem PySem.Spec PyProof.Rows L2
/-- a def that is called where no repr is under way -/
structure FnG (P : Program) (w : World) (K : PySem.W.Frag) (mg : Str → Option Value)
    (base : Heap) (k : Nat) (f : Addr) (fd : FuncData) (ps : List Str) (sp : Sp) : Prop where
  len : ∀ vs H Q E, sp vs H Q E → vs.length = ps.length
  go : ∀ (A : Around) (outer : List Env) (s : Shared) (H : Hp) (args : Args)
    (us : List Value) (vs : List V) (Q : VK) (E : XK),
    A.guards = some [] → Room k A → Env0 P w K mg base A outer s H →
    BindsTo s fd args (ps.zip us) → Vals vs us → sp vs H Q E →
    codeAny (model P w) A (.call (.ref f) args) (CR CX0 outer P w H s Q E) s
theorem guards_deeper {A : Around} {env : Env} (h : A.guards = some []) :
    (A.deeper env).guards = some [] := by
  first
    | exact h
    | (unfold Around.deeper; exact h)
    | simp [Around.deeper, h]
section
variable {P : Program} {w : World} {K : PySem.W.Frag} {mg : Str → Option Value} {base : Heap}
  {x qual : Str} {params : Arguments} {body : List Stmt} {scope : Scope} {dvs : List V}
  {kws : List (Str × V)} {f : Addr} {fd : FuncData}
/-- such a def by its body; the body knows that no repr is under way -/
theorem okG {N ps : List Str} {k : Nat} {sp : Sp}
    (F : FunD K x qual params body scope dvs kws f fd) (S : FnScope N ps scope)
    (len : ∀ vs H Q E, sp vs H Q E → vs.length = ps.length)
    (hbody : ∀ (cdv : Value) (A : Around) (outer : List Env) (s : Shared) (H : Hp)
      (vs : List V) (Q : VK) (E : XK),
      (A.deeper (envOfC qual scope s.heap.objs.size f cdv)).guards = some [] →
      Room k (A.deeper (envOfC qual scope s.heap.objs.size f cdv)) → sp vs H Q E →
      ∃ t, PSs (cxOf CX0 P w K mg base N qual scope f cdv A outer s H E) body t ∧
        t { nx := fun _ H' => Q .non H', rt := Q } (start N vs) H) :
    FnG P w K mg base (k + 1) f fd ps sp := by
  obtain ⟨oc, od, dV, kV, doc, pm, an, cdv, ct, osl, rfl, hat, hcode, _, _⟩ := F.ex
  refine ⟨len, ?_⟩
  intro A outer s H args us vs Q E hG room env bind rel want
  have kin : K.In s.heap :=
    env.mod.kin.keeps (fun b o e => (env.bs b o e).1)
  have nolim : s.heap.NoLimit :=
    env.mod.nolimit.keeps (fun b o e => (env.bs b o e).1)
  refine codeAny_call_function room.depth (kin _ _ hat) rfl S.co S.gen rfl
    (PySem.W.codeRec_of kin hcode) (bind _ _ _ _ ?_)
  refine wpAny_newFunctionEnv_cells S.kind ?_ ?_
  · rintro ⟨n, v⟩ hy
    cases S.par n (List.of_mem_zip hy).1 with
    | inl q => exact Or.inl q
    | inr q => exact Or.inr ⟨q, PySem.W.cellsFrom_some _ _ _ (.inl q)⟩
  · intro en he s1 made
    subst he
    refine ⟨nolim.keeps made.toInCall.keep, codeAny_func ?_⟩
    obtain ⟨t, derived, told⟩ :=
      hbody cdv A outer s H vs Q E (guards_deeper hG) (room.deeper _) want
    have inv0 := inv_start (CX := CX0) (E := E) S room.hd env (len _ _ _ _ want) rel made
    refine wpAny_mono (derived.run [] s1 (start N vs) H _ inv0 told) ?_ (fun _ _ z => z)
    intro fl s' hs
    cases fl with
    | brk => exact False.elim hs.choose_spec.choose_spec.2
    | cont => exact False.elim hs.choose_spec.choose_spec.2
    | next =>
      obtain ⟨_, H', J, q⟩ := hs
      exact ⟨.non, H', J.os, J.bare, J.base, J.hok, rfl, q⟩
    | ret u =>
      obtain ⟨v, _, H', J, rv, q⟩ := hs
      exact ⟨v, H', J.os, J.bare, J.base, J.hok, rv, q⟩
end
section
variable {X : Cx} {k : Nat} {f : Addr} {fd : FuncData} {ps : List Str} {sp : Sp}
  {E : XK} {x : Str} {p pos : Pos} {e : Expr} {es : List Expr} {t : TA}
/-- the call of such a def from a body that knows the same -/
theorem pe_callG (F : FnG X.prog X.w X.K X.mg X.base k f fd ps sp)
    (hG : X.A.guards = some []) (hr : Room k X.A) (hg : Gl X x)
    (hm : X.mg x = some (.ref f)) (hk : PySem.W.keepIn X.K (.ref f) = true)
    (hb : Binds X.K fd ps []) (ha : PA X (e :: es) t)
    (hdb : (x == ("__debug__" : Str)) = false := by decide)
    (he : starEach (e :: es) X.env = (false, eval e X.env) :: starEach es X.env := by rfl)
    (hpl : (backTo pos (starEach es X.env)).any (·.1) = false := by rfl) :
    PE X (.Call (.Name x p) (e :: es) [] pos) (tCall sp [] E0 t) := by
  constructor
  intro pins s σ H Q I h
  refine wpAny_Call_Name_kw (ld_glob I hg hm ?_ hdb)
  refine PySem.W.callWith_K (h₀ := X.base) I.ok.mod.kin hk (thn (ha.run pos pins s σ H _ I h) ?_) he hpl
  rintro us s1 ⟨vs, H1, I1, r, q⟩
  refine ⟨I1.kIn, ?_⟩
  have q' : sp (vs ++ []) H1 Q E0 := q
  rw [List.append_nil] at q'
  have hl : (us ++ []).length = ps.length := by
    rw [List.append_nil, ← r.length]
    exact F.len _ _ _ _ q'
  have hbb := hb s1 us I1.kIn hl
  rw [List.append_nil] at hbb
  refine wpAny_call (codeAny_mono (F.go X.A X.stack s1 H1 ⟨us, []⟩ us vs Q E0 hG hr I1.env0 hbb r q') ?_)
  intro r s' hq
  cases r with
  | error e => exact False.elim hq
  | ok fl =>
    cases fl with
    | next => exact False.elim hq
    | brk => exact False.elim hq
    | cont => exact False.elim hq
    | ret u => exact I1.after hq
end
section
variable {X : Cx}
/-- repr of data -/
def rRepr (K : PySem.W.Frag) : List V → Hp → VK → Prop := fun vs H Q =>
  ∃ (a : Addr) (d : PyData), vs = [.ref a] ∧ Dp K H (.ref a) d ∧ d.showable = true ∧
    d.hasDict = false ∧ d.depth ≤ 60 ∧ d.shown.length ≤ sizeLine ∧ Q (.str d.shown) H
theorem call_repr (hG : X.A.guards = some []) (hu : X.A.units + 64 < cLine) :
    CallR X (.builtin "repr") (rRepr X.K) := by
  intro pins s σ H xs us Q I r h
  obtain ⟨a, d, rfl, hd, hs, hn, hdp, hz, q⟩ := h
  have hu1 := Vals.ref1 r
  rw [hu1]
  obtain ⟨as, rd⟩ := Dp.reads I d _ _ hd (show RelV (.ref a) (.ref a) from rfl)
  refine repr_of_reads' rd hs (fun e => by rw [hn] at e; cases e) hG (by omega) (fun _ _ e => e) ?_ hz
  intro h' u tk hk
  exact ⟨.str d.shown, H, I.kept hk, ⟨u, rfl⟩, q⟩
/-- floor division by any great divisor but 0 -/
def CDivA (_ j : Int) : Prop := j ≠ 0 ∧ j.natAbs.log2 < 9000
theorem op_fdivA : OpR X (binaryOp .FloorDiv) (rI CDivA fun i j => .int (i.fdiv j)) :=
  opI fun i j _ _ _ _ _ hc q =>
    floordiv_int hc.1 q (.inl (PyProof.noPylong_of_log2 hc.2))
end
end Gd
namespace Gd
open PySem PySem.Spec PyProof.Rows L2
section
variable {P : Program} {w : World} {K : PySem.W.Frag} {mg mb : Str → Option Value}
  {k : Nat} {fa a : Addr} {fd : FuncData} {x : Str} {sp : Sp} {s : Shared}
  {vs : List Value} {ns : List Int}
/-- the abstract heap of a law's entry tracks the script alone -/
theorem law_coreG (kin : K.In s.heap) (hns : s.heap.Ns mainGlobals mg)
    (hb : s.heap.Ns builtinsNs mb) (hbb : ∀ x : Str, x ≠ "__name__" → mb x = bootBuiltins x)
    (hlim : s.heap.NoLimit) (hgens : s.gens = #[])
    (hat : s.heap.get? a = some { cls := .type "list", data := .seq vs.toArray })
    (hr : Room k callerA)
    (F : ∀ base : Heap, K.In base → base.Ns mainGlobals mg → FnG P w K mg base k fa fd [x] sp)
    (hbind : ∀ (s : Shared) (u : Value), BindsTo s fd ⟨[u], []⟩ [(x, u)])
    (H : Hp) (hO : Only H) (hok : HOk P w H s.heap) (hA : ∀ b, H b ≠ none → b = a)
    (hK : H a ≠ none → K.lookup a = none)
    (hsp : sp [.ref a] H (fun v _ => v = .bl true) E0) :
    codeAny (model P w) callerA (.call (.ref fa) ⟨[.ref a], []⟩)
      (fun r s' => r = .ok (.ret (.bool true)) ∧ OldK s.heap s'.heap ∧ s'.os = s.os ∧
        AllBare s'.gens) s := by
  have free_of : ∀ b : Addr, b ≠ a → H b = none := by
    intro b hb
    cases q : H b with
    | none => rfl
    | some u => exact absurd (hA b (by rw [q]; exact Option.some_ne_none u)) hb
  have dictFree : ∀ {b : Addr} {o : Obj} {es : Array DictEntry} {ep : Nat},
      s.heap.get? b = some o → o.data = .dict es ep → H b = none := by
    intro b o es ep e d
    refine free_of b ?_
    rintro rfl
    rw [hat] at e
    cases e
    cases d
  have nsHid : ∀ {b : Addr} {m : Str → Option Value},
      s.heap.Ns b m → (hidT s.heap H).Ns b m := by
    rintro b m ⟨o, es, ep, e, d, r⟩
    exact ⟨o, es, ep, hidT_get e (dictFree e d), d, r⟩
  have kinHid : K.In (hidT s.heap H) := by
    intro b o e
    refine hidT_get (kin b o e) ?_
    by_cases h : b = a
    · subst h
      cases q : H b with
      | none => rfl
      | some u =>
        rw [hK (by rw [q]; exact Option.some_ne_none u)] at e
        cases e
    · exact free_of b h
  obtain ⟨mc, hl1, hl2⟩ := hlim
  have modHid : Mod K mg (hidT s.heap H) :=
    ⟨kinHid, nsHid hns, ⟨mb, nsHid hb, hbb⟩, ⟨mc, nsHid hl1, hl2⟩⟩
  have env : Env0 P w K mg (hidT s.heap H) callerA [] s H := by
    refine ⟨rfl, modHid, fun b o e => of_hidT e, Nat.le_of_eq (hidT_size _ _), trivial, ?_, hok, .of_eq hgens⟩
    intro b hb
    cases hb
  have run := (F _ kinHid (nsHid hns)).go callerA [] s H ⟨[.ref a], []⟩ [.ref a] [.ref a] _ _
    rfl hr env (hbind s (.ref a)) (.cons rfl .nil) hsp
  refine codeAny_mono run ?_
  intro r s' h
  cases r with
  | error e => exact False.elim h
  | ok fl =>
    cases fl with
    | next => exact False.elim h
    | brk => exact False.elim h
    | cont => exact False.elim h
    | ret u =>
      obtain ⟨v, H', os, bare, un, hok', rel, rfl⟩ := h
      cases rel
      refine ⟨rfl, OldK.of_keep ?_, os, bare⟩
      intro b o e
      cases q : H b with
      | none => exact un.keep b o e q (fun z => by cases z) (fun z => by cases z)
      | some u =>
        rcases hO b with z | ⟨ob, xs, z⟩
        · rw [q] at z
          cases z
        · have e1 := (hok b _ z).1
          have e2 := (hok' b _ (un.frzs b ob _ z)).1
          rw [e] at e1
          cases e1
          exact e2
theorem law_goG (kin : K.In s.heap) (hns : s.heap.Ns mainGlobals mg)
    (hb : s.heap.Ns builtinsNs mb) (hbb : ∀ x : Str, x ≠ "__name__" → mb x = bootBuiltins x)
    (hlim : s.heap.NoLimit) (hgens : s.gens = #[])
    (hat : s.heap.get? a = some { cls := .type "list", data := .seq vs.toArray })
    (hi : IntsAre vs ns) (hl : ns.length ≤ sizeLine) (hr : Room k callerA)
    (F : ∀ base : Heap, K.In base → base.Ns mainGlobals mg → FnG P w K mg base k fa fd [x] sp)
    (hbind : ∀ (s : Shared) (u : Value), BindsTo s fd ⟨[u], []⟩ [(x, u)])
    (hsp : ∀ H : Hp, Only H → SqL K H a (ns.map V.int) →
      sp [.ref a] H (fun v _ => v = .bl true) E0) :
    codeAny (model P w) callerA (.call (.ref fa) ⟨[.ref a], []⟩)
      (fun r s' => r = .ok (.ret (.bool true)) ∧ OldK s.heap s'.heap ∧ s'.os = s.os ∧
        AllBare s'.gens) s := by
  have rel := vals_ints hi
  have lenEq := hi.length
  cases hk : K.lookup a with
  | some o =>
    have e := kin a o hk
    rw [hat] at e
    cases e
    have hO : Only (fun _ => none) := fun _ => Or.inl rfl
    have hS : SqL K (fun _ => none) a (ns.map V.int) :=
      Or.inr ⟨_, vs.toArray, _, hk, rfl, rfl, rfl,
        by rw [List.size_toArray, lenEq]; exact hl, by simpa using rel⟩
    exact law_coreG kin hns hb hbb hlim hgens hat hr F hbind _ hO
      (fun b u z => nomatch z) (fun b z => absurd rfl z) (fun z => absurd rfl z) (hsp _ hO hS)
  | none =>
    let H : Hp := fun b => if b = a then
      some (.frz { cls := .type "list", data := .seq vs.toArray } (.lst (ns.map V.int))) else none
    have at_a : H a = some (.frz { cls := .type "list", data := .seq vs.toArray }
      (.lst (ns.map V.int))) := if_pos rfl
    have off : ∀ b, b ≠ a → H b = none := fun b h => if_neg h
    have hO : Only H := by
      intro b
      by_cases h : b = a
      · subst h
        exact Or.inr ⟨_, _, at_a⟩
      · exact Or.inl (off b h)
    have hS : SqL K H a (ns.map V.int) := Or.inl (Or.inr ⟨_, at_a⟩)
    refine law_coreG kin hns hb hbb hlim hgens hat hr F hbind H hO ?_ ?_ (fun _ => hk) (hsp H hO hS)
    · intro b u z
      by_cases h : b = a
      · subst h
        rw [at_a] at z
        cases z
        exact ⟨hat, by rw [List.length_map]; exact hl, vs, _, rel, hat⟩
      · rw [off b h] at z
        cases z
    · intro b z
      by_cases h : b = a
      · exact h
      · exact absurd (off b h) z
end
/-- a law's end -/
theorem walkG {l : PySem.W.OpenLaw} {n k : Nat} {q : Program} {loose : List Str}
    {XP : (Str → Option Value) → Heap → Prop} {YP : World → Heap → Prop} {d : DefRec} {x : Str}
    (hn : l.most = some n) (hn2 : n ≤ sizeLine) (hdf : d.params.defaults = [])
    (hr : Room k callerA)
    (F : ∀ (w : World) (mg : Str → Option Value) (fa : Addr) (h : Heap), YP w h →
      h.Ns mainGlobals mg → mg d.name = some (.ref fa) →
      ∃ (K : PySem.W.Frag) (fd : FuncData) (sp : Sp), K.In h ∧
        (∀ (s : Shared) (u : Value), BindsTo s fd ⟨[u], []⟩ [(x, u)]) ∧
        (∀ (H : Hp) (a : Addr) (ns : List Int), ns.length ≤ n → Only H →
          SqL K H a (ns.map V.int) → sp [.ref a] H (fun v _ => v = .bl true) E0) ∧
        ∀ base : Heap, K.In base → base.Ns mainGlobals mg → FnG l.prog w K mg base k fa fd [x] sp) :
    PySem.W.WalkO q loose XP YP l.row.toRowW d [] (fun f vs => PySem.call f vs) := by
  refine Att.attach_call hn hdf ?_
  intro w s₀ s₁ mg mb fa o pm cd doc a vs ns G Y _ _ _ hmg hobj hints hlen hgens
  obtain ⟨K, fd, sp, kin, hb, hsp, hF⟩ := F w mg fa _ Y G.T.g hmg
  exact law_goG kin G.T.g G.T.b G.T.builtins G.T.nolimit hgens hobj hints
    (Nat.le_trans hlen hn2) hr hF hb (fun H hO hS => hsp H a ns hlen hO hS)
end Gd
namespace Gd
open PySem PySem.Spec PyProof.Rows L2
/-- the def x of the text stands at its name -/
def Df (K : PySem.W.Frag) (mg : Str → Option Value) (x : Str) (st : Stmt) : Prop :=
  ∃ f fd, FunD K x x (defArgs st) (defBody st) (defScope st) [] [] f fd ∧ mg x = some (.ref f)
/-- the def x keeps its promise; the same where no repr is under way -/
def Has (P : Program) (w : World) (K : PySem.W.Frag) (mg : Str → Option Value) (base : Heap)
    (x : Str) (k : Nat) (ps : List Str) (sp : Sp) : Prop :=
  ∃ f fd, FnOk P w K mg base CX0 k f fd ps sp ∧ mg x = some (.ref f) ∧
    PySem.W.keepIn K (.ref f) = true ∧ Binds K fd ps []
def HasG (P : Program) (w : World) (K : PySem.W.Frag) (mg : Str → Option Value) (base : Heap)
    (x : Str) (k : Nat) (ps : List Str) (sp : Sp) : Prop :=
  ∃ f fd, FnG P w K mg base k f fd ps sp ∧ mg x = some (.ref f) ∧
    PySem.W.keepIn K (.ref f) = true ∧ Binds K fd ps []
abbrev BndOk (x : Str) (st : Stmt) (ps : List Str) : Prop :=
  ∀ (kV doc pm : Value) (an : Option Addr) (cdv ct : Value) (us : List Value),
    us.length = ps.length →
    bindArgs (PySem.W.fnOf x x (defArgs st) (defBody st) (defScope st) .none kV doc pm an cdv ct)
      ⟨us, []⟩ = pure (ps.zip us)
section
variable {P : Program} {w : World} {K : PySem.W.Frag} {mg : Str → Option Value} {base : Heap}
  {x : Str} {st : Stmt} {N ps : List Str} {k : Nat} {sp : Sp}
theorem has_of (D : Df K mg x st) (S : FnScope N ps (defScope st)) (hb : BndOk x st ps)
    (len : ∀ vs H Q E, sp vs H Q E → vs.length = ps.length)
    (hbody : ∀ (f : Addr) (cdv : Value) (A : Around) (outer : List Env) (s : Shared) (H : Hp)
      (vs : List V) (Q : VK) (E : XK),
      Room k (A.deeper (envOfC x (defScope st) s.heap.objs.size f cdv)) → sp vs H Q E →
      ∃ t, PSs (cxOf CX0 P w K mg base N x (defScope st) f cdv A outer s H E).nox (defBody st) t ∧
        t { nx := fun _ H' => Q .non H', rt := Q } (start N vs) H) :
    Has P w K mg base x (k + 1) ps sp := by
  obtain ⟨f, fd, F, hm⟩ := D
  refine ⟨f, fd, F.ok S len ?_, hm, F.kp, F.bindsN hb⟩
  intro cdv A outer s H vs Q E hr h
  obtain ⟨t, h1, h2⟩ := hbody f cdv A outer s H vs Q E hr h
  exact ⟨t, PSs.nox h1, h2⟩
theorem hasG_of (D : Df K mg x st) (S : FnScope N ps (defScope st)) (hb : BndOk x st ps)
    (len : ∀ vs H Q E, sp vs H Q E → vs.length = ps.length)
    (hbody : ∀ (f : Addr) (cdv : Value) (A : Around) (outer : List Env) (s : Shared) (H : Hp)
      (vs : List V) (Q : VK) (E : XK),
      (A.deeper (envOfC x (defScope st) s.heap.objs.size f cdv)).guards = some [] →
      Room k (A.deeper (envOfC x (defScope st) s.heap.objs.size f cdv)) → sp vs H Q E →
      ∃ t, PSs (cxOf CX0 P w K mg base N x (defScope st) f cdv A outer s H E).nox (defBody st) t ∧
        t { nx := fun _ H' => Q .non H', rt := Q } (start N vs) H) :
    HasG P w K mg base x (k + 1) ps sp := by
  obtain ⟨f, fd, F, hm⟩ := D
  refine ⟨f, fd, okG F S len ?_, hm, F.kp, F.bindsN hb⟩
  intro cdv A outer s H vs Q E hG hr h
  obtain ⟨t, h1, h2⟩ := hbody f cdv A outer s H vs Q E hG hr h
  exact ⟨t, PSs.nox h1, h2⟩
end
section
variable {X : Cx} {k : Nat} {ps : List Str} {sp : Sp} {x : Str} {p pos : Pos} {e : Expr}
  {es : List Expr} {t : TA}
theorem pe_has (F : Has X.prog X.w X.K X.mg X.base x k ps sp) (hr : Room k X.A) (hg : Gl X x)
    (ha : PA X (e :: es) t) (hdb : (x == ("__debug__" : Str)) = false := by decide)
    (he : starEach (e :: es) X.env = (false, eval e X.env) :: starEach es X.env := by rfl)
    (hpl : (backTo pos (starEach es X.env)).any (·.1) = false := by rfl) :
    PE X (.Call (.Name x p) (e :: es) [] pos) (tCall sp [] E0 t) := by
  obtain ⟨f, fd, G, hm, kp, hb⟩ := F
  exact pe_call G hr hg hm kp hb .nil pass0 ha hdb he hpl
theorem pe_hasG (F : HasG X.prog X.w X.K X.mg X.base x k ps sp) (hG : X.A.guards = some [])
    (hr : Room k X.A) (hg : Gl X x)
    (ha : PA X (e :: es) t) (hdb : (x == ("__debug__" : Str)) = false := by decide)
    (he : starEach (e :: es) X.env = (false, eval e X.env) :: starEach es X.env := by rfl)
    (hpl : (backTo pos (starEach es X.env)).any (·.1) = false := by rfl) :
    PE X (.Call (.Name x p) (e :: es) [] pos) (tCall sp [] E0 t) := by
  obtain ⟨f, fd, G, hm, kp, hb⟩ := F
  exact pe_callG G hG hr hg hm kp hb ha hdb he hpl
end
/-! ### heaps -/
/-- all but what stands at a is as it was -/
def Sb (a : Addr) (H H' : Hp) : Prop := ∀ b o, b ≠ a → H b = some o → H' b = some o
theorem Sb.refl (a : Addr) (H : Hp) : Sb a H H := fun _ _ _ h => h
theorem Sb.trans {a : Addr} {H H1 H2 : Hp} (x : Sb a H H1) (y : Sb a H1 H2) : Sb a H H2 :=
  fun b o n h => y b o n (x b o n h)
theorem Sb.of {a : Addr} {H H1 : Hp} (x : Same H H1) : Sb a H H1 := fun b o _ h => x b o h
theorem Same.new {H : Hp} {p : Addr} {o : HO} (h : H p = none) : Same H (upd H p o) :=
  fun b u e => by rw [upd_ne (ne_of_none e h)]; exact e
/-- an object that H does not know may change -/
theorem Same.mut {H H' : Hp} {p : Addr} {o : HO} (e : Same H H') (h : H p = none) :
    Same H (upd H' p o) := fun a u ha => by
  rw [upd_ne (ne_of_none ha h)]
  exact e a u ha
theorem Sb.mut {a : Addr} {H H' : Hp} {p : Addr} {o : HO} (e : Sb a H H') (h : H p = none) :
    Sb a H (upd H' p o) := fun b u n hb => by
  rw [upd_ne (ne_of_none hb h)]
  exact e b u n hb
theorem Sb.own {a : Addr} {H H' : Hp} {o : HO} (e : Sb a H H') : Sb a H (upd H' a o) :=
  fun b u n hb => by rw [upd_ne n]; exact e b u n hb
theorem Sb.new {a : Addr} {H : Hp} {p : Addr} {o : HO} (h : H p = none) : Sb a H (upd H p o) :=
  Sb.of (Same.new h)
theorem Sb.free {a p : Addr} {H H' : Hp} (e : Sb a H H') (n : p ≠ a) (h : H' p = none) :
    H p = none := by
  cases q : H p with
  | none => rfl
  | some o => rw [e p o n q] at h; cases h
/-- the feed of a law at a: its cells at s (the script's first ones), where it stands, what is left,
how many draws there were (n at most) -/
def Fd (H : Hp) (a s : Addr) (n : Nat) : Prop :=
  ∃ (ns : List Int) (p l c : Int),
    H a = some (.lst [.ref s, .int p, .int l, .int c]) ∧ H s = some (.lst (ns.map V.int)) ∧
    ns.length ≤ 63 ∧ 0 ≤ p ∧ 0 ≤ c ∧ c ≤ (n : Int)
theorem Fd.mono {H : Hp} {a s : Addr} {n m : Nat} (h : Fd H a s n) (e : n ≤ m) : Fd H a s m := by
  obtain ⟨ns, p, l, c, h1, h2, h3, h4, h5, h6⟩ := h
  exact ⟨ns, p, l, c, h1, h2, h3, h4, h5, by omega⟩
theorem Fd.same {H H' : Hp} {a s : Addr} {n : Nat} (h : Fd H a s n) (e : Same H H') : Fd H' a s n := by
  obtain ⟨ns, p, l, c, h1, h2, h3, h4, h5, h6⟩ := h
  exact ⟨ns, p, l, c, e _ _ h1, e _ _ h2, h3, h4, h5, h6⟩
theorem Fd.at {H : Hp} {a s : Addr} {n : Nat} (h : Fd H a s n) : ∃ xs, H a = some (.lst xs) := by
  obtain ⟨ns, p, l, c, h1, _⟩ := h
  exact ⟨_, h1⟩
/-- another object changes -/
theorem Fd.upd {H : Hp} {a s D : Addr} {n : Nat} {o : HO} (h : Fd H a s n) (h1 : D ≠ a) (h2 : D ≠ s) :
    Fd (L2.upd H D o) a s n := by
  obtain ⟨ns, p, l, c, e1, e2, h3, h4, h5, h6⟩ := h
  exact ⟨ns, p, l, c, by rw [upd_ne h1.symm]; exact e1, by rw [upd_ne h2.symm]; exact e2, h3, h4, h5, h6⟩
/-- what is new is none of the feed's -/
theorem Fd.apart {H : Hp} {a s D : Addr} {n : Nat} (h : Fd H a s n) (hD : H D = none) : D ≠ a ∧ D ≠ s := by
  obtain ⟨ns, p, l, c, e1, e2, _⟩ := h
  constructor
  · intro z
    rw [z, e1] at hD
    cases hD
  · intro z
    rw [z, e2] at hD
    cases hD
theorem Fd.tk {H H' : Hp} {a s : Addr} {n : Nat} (h : Fd H a s n) (e : Sb a H H') :
    ∀ b o, (∀ xs, o ≠ .lst xs) → H b = some o → H' b = some o := by
  obtain ⟨xs, hx⟩ := h.at
  intro b o no hb
  refine e b o ?_ hb
  rintro rfl
  rw [hx] at hb
  cases hb
  exact no _ rfl
end Gd
namespace Gd
open PySem PySem.Spec PyProof.Rows L2
/-- data whose repr is known: of this depth at most, its text of so many signs at most -/
def Sh (k n : Nat) (d : PyData) : Prop :=
  d.showable = true ∧ d.hasDict = false ∧ d.depth ≤ k ∧ d.shown.length ≤ n
theorem Sh.mono {k k' n n' : Nat} {d : PyData} (h : Sh k n d) (hk : k ≤ k') (hn : n ≤ n') :
    Sh k' n' d := ⟨h.1, h.2.1, Nat.le_trans h.2.2.1 hk, Nat.le_trans h.2.2.2 hn⟩
theorem Sh.int {i : Int} (h : i.natAbs < 2 ^ 1900) : Sh 0 1901 (.int i) := by
  have hl : i.natAbs.log2 < 1900 := PySem.Flt.log2_lt_of (by decide) h
  refine ⟨?_, ?_, ?_, ?_⟩
  · simp only [PyData.showable, decide_eq_true_eq]
    omega
  · simp only [PyData.hasDict]
  · simp only [PyData.depth]
    omega
  · have e := PySem.int_text_length_le (a := i) (k := 1900) (by decide) hl
    simp only [PyData.shown]
    have e2 := PySem.ofString_length (toString i)
    show (Str.ofString (toString i)).length ≤ 1901
    omega
theorem sh_all {k n : Nat} : ∀ ds : List PyData, (∀ d ∈ ds, Sh k n d) →
    PyData.showableAll ds = true ∧ PyData.hasDictAll ds = false ∧ PyData.depthAll ds ≤ k ∧
    ((PyData.shownAll ds).map (·.length)).sum ≤ ds.length * n ∧ (PyData.shownAll ds).length = ds.length
  | [], _ => by
    refine ⟨?_, ?_, ?_, ?_, ?_⟩
    · simp only [PyData.showableAll]
    · simp only [PyData.hasDictAll]
    · simp only [PyData.depthAll]
      omega
    · simp only [PyData.shownAll, List.map_nil, List.sum_nil, List.length_nil]
      omega
    · simp only [PyData.shownAll, List.length_nil]
  | d :: ds, h => by
    obtain ⟨a1, a2, a3, a4⟩ := h d (List.mem_cons_self ..)
    obtain ⟨b1, b2, b3, b4, b5⟩ := sh_all ds (fun x hx => h x (List.mem_cons_of_mem _ hx))
    refine ⟨?_, ?_, ?_, ?_, ?_⟩
    · simp only [PyData.showableAll, a1, b1, Bool.and_self]
    · simp only [PyData.hasDictAll, a2, b2, Bool.or_self]
    · simp only [PyData.depthAll]
      omega
    · simp only [PyData.shownAll, List.map_cons, List.sum_cons, List.length_cons, Nat.add_mul,
        Nat.one_mul]
      omega
    · simp only [PyData.shownAll, List.length_cons, b5]
theorem Sh.tup {k n m : Nat} {ds : List PyData} (h : ∀ d ∈ ds, Sh k n d) (hl : ds.length ≤ m) :
    Sh (k + 1) (m * (n + 2) + 3) (.tuple ds) := by
  obtain ⟨b1, b2, b3, b4, b5⟩ := sh_all ds h
  refine ⟨?_, ?_, ?_, ?_⟩
  · simp only [PyData.showable, b1]
  · simp only [PyData.hasDict, b2]
  · simp only [PyData.depth]
    omega
  · have e := PySem.tupleText_len_le (PyData.shownAll ds)
    simp only [PyData.shown]
    have e2 : ds.length * n ≤ m * n := Nat.mul_le_mul_right _ hl
    rw [Nat.mul_add]
    omega
theorem Sh.lst {k n m : Nat} {ds : List PyData} (h : ∀ d ∈ ds, Sh k n d) (hl : ds.length ≤ m) :
    Sh (k + 1) (m * (n + 2) + 3) (.list ds) := by
  obtain ⟨b1, b2, b3, b4, b5⟩ := sh_all ds h
  refine ⟨?_, ?_, ?_, ?_⟩
  · simp only [PyData.showable, b1]
  · simp only [PyData.hasDict, b2]
  · simp only [PyData.depth]
    omega
  · have e := PySem.listText_len_le (PyData.shownAll ds)
    simp only [PyData.shown]
    have e2 : ds.length * n ≤ m * n := Nat.mul_le_mul_right _ hl
    rw [Nat.mul_add]
    omega
theorem repr_at {K : PySem.W.Frag} {H : Hp} {a : Addr} {d : PyData} {k n : Nat} {Q : VK}
    (hd : Dp K H (.ref a) d) (hs : Sh k n d) (hk : k ≤ 60) (hn : n ≤ 16000000)
    (q : Q (.str d.shown) H) : rRepr K [.ref a] H Q :=
  ⟨a, d, rfl, hd, hs.1, hs.2.1, Nat.le_trans hs.2.2.1 hk,
    Nat.le_trans hs.2.2.2 (Nat.le_trans hn (by decide)), q⟩
/-- data that are there stay while what is tracked stays -/
theorem sql_same {K : PySem.W.Frag} {H H' : Hp} {a : Addr} {xs : List V} (e : Same H H')
    (h : SqL K H a xs) : SqL K H' a xs := e.seq h
theorem sqt_same {K : PySem.W.Frag} {H H' : Hp} {a : Addr} {xs : List V} (e : Same H H')
    (h : SqT K H a xs) : SqT K H' a xs := by
  rcases h with (h | ⟨o, h⟩) | h
  · exact Or.inl (Or.inl (e _ _ h))
  · exact Or.inl (Or.inr ⟨o, e _ _ h⟩)
  · exact Or.inr h
mutual
theorem Dp.same {K : PySem.W.Frag} {H H' : Hp} (e : Same H H') : ∀ (d : PyData) (v : V),
    Dp K H v d → Dp K H' v d
  | .none, _, h => by cases h; exact .non
  | .bool b, _, h => by cases h; exact .bl b
  | .int i, _, h => by cases h; exact .int i
  | .str x, _, h => by cases h; exact .str x
  | .list ds, _, h => by
    cases h with
    | lst hs ha => exact .lst (sql_same e hs) (DpAll.same e ds _ ha)
  | .tuple ds, _, h => by
    cases h with
    | tup hs ha => exact .tup (sqt_same e hs) (DpAll.same e ds _ ha)
  | .dict _, _, h => by cases h
theorem DpAll.same {K : PySem.W.Frag} {H H' : Hp} (e : Same H H') : ∀ (ds : List PyData)
    (vs : List V), DpAll K H vs ds → DpAll K H' vs ds
  | [], _, h => by cases h; exact .nil
  | d :: ds, _, h => by
    cases h with
    | cons h1 h2 => exact .cons (Dp.same e d _ h1) (DpAll.same e ds _ h2)
end
end Gd
namespace Gd
open PySem PySem.Spec PyProof.Rows L2
theorem tup_mul_one (l : Addr) (items : Array Value) (n : Nat) (dd : Option Addr)
    (sl : Array (Option Value)) (u : Tok) :
    Meets (Builtin.«tuple.__mul__» ⟨[.ref l, .int 1 u], []⟩) (fun _ R s =>
      s.heap.get? l = some { cls := .type "tuple", dict := dd, data := .seq items n, slots := sl } ∧
      R (.ok (.ret (Value.ref l))) s) :=
  .of_wp fun prog w A R s h => by
    obtain ⟨hp, g, d, tk, os⟩ := s
    obtain ⟨hl, h⟩ := h
    have f1 := AutoSeq1.idx_int
    have c1 : (items.isEmpty || (1 : Int) == 1) = true := by simp
    wp_walk using wpAny_loadPart' hl
    all_goals (try (refine wpAny_ite_true (decide_eq_true c1) ?_; wp_walk using wpAny_loadPart' hl))
    all_goals exact ⟨_, rfl, h⟩
theorem tup_mul_none (l : Addr) (items : Array Value) (n : Nat) (dd : Option Addr)
    (sl : Array (Option Value)) (x : Int) (u : Tok) (hx : x ≤ 0) (hx0 : -1000 ≤ x) (hi : items.isEmpty = false) :
    Meets (Builtin.«tuple.__mul__» ⟨[.ref l, .int x u], []⟩) (fun _ R s =>
      s.heap.get? l = some { cls := .type "tuple", dict := dd, data := .seq items n, slots := sl } ∧
      R (.ok (.ret (Value.ref s.heap.objs.size)))
        { s with heap := s.heap.push { cls := Value.type "tuple", data := Data.seq #[] }, toks := s.toks }) :=
  .of_wp fun prog w A R s h => by
    obtain ⟨hp, g, d, tk, os⟩ := s
    obtain ⟨hl, h⟩ := h
    have f1 := AutoSeq1.idx_int
    have c0 : (decide (x < -(2 ^ 63)) || decide (x ≥ 2 ^ 63)) = false := by
      rw [decide_eq_false (by omega), decide_eq_false (by omega)]; rfl
    have c1 : (items.isEmpty || x == 1) = false := by
      rw [hi, Bool.false_or]
      exact beq_eq_false_iff_ne.mpr (by omega)
    have c2 : (decide (x ≤ 0) || items.isEmpty) = true := by
      rw [decide_eq_true hx]; rfl
    wp_walk using wpAny_loadPart' hl
    repeat (first
      | (refine wpAny_ite_false (decide_eq_false (by rw [c0]; exact Bool.false_ne_true)) ?_; wp_walk using wpAny_loadPart' hl)
      | (refine wpAny_ite_false (decide_eq_false (by rw [c1]; exact Bool.false_ne_true)) ?_; wp_walk using wpAny_loadPart' hl)
      | (refine wpAny_ite_true (decide_eq_true c2) ?_; wp_walk using wpAny_loadPart' hl))
    exact ⟨_, rfl, h⟩
section
variable {X : Cx}
/-- t * k of a tuple with items, k small, of either sign -/
def rRepA (K : PySem.W.Frag) : R2 := fun x y H Q => ∃ (l : Addr) (k : Int) (xs : List V),
  x = .ref l ∧ y = .int k ∧ SqT K H l xs ∧ xs ≠ [] ∧ -1000 ≤ k ∧ k ≤ 1000 ∧ xs.length ≤ 1000 ∧
  ∀ (p : Addr) (H' : Hp), Same H H' → SqT K H' p (List.replicate k.toNat xs).flatten → Q (.ref p) H'
theorem op_repA : OpR X (binaryOp .Mult) (rRepA X.K) := by
  intro pins s σ H x y v u Q I rx ry h
  obtain ⟨l, k, xs, rfl, rfl, hT, hne, h1, h2, hz, q⟩ := h
  by_cases hk : 2 ≤ k
  · exact op_repT pins s σ H _ _ v u Q I rx ry ⟨l, k, xs, rfl, rfl, hT, hne, hk, h2, hz,
      fun p np => q p _ (Same.new np) (SqT.of upd_same)⟩
  · cases rx
    obtain ⟨t, rfl⟩ := ry
    obtain ⟨its, r, ⟨⟨cls, dd, data, sl⟩, ho, hc, n, hd⟩, hs⟩ := I.tuple hT
    simp only at hc hd
    subst hc hd
    by_cases hk1 : k = 1
    · subst hk1
      refine wpAny_binaryOp_repeat_ref (T := "tuple") (U := "int") (by decide) ⟨_, ho, rfl⟩
        (fun s' => typeIs_int s' 1 t) noFill_tuple_mul F.fills_int_mul F.slot_int_rmul repeat_tuple
        F.slot_int_index.lookup
        (call_meets F.slot_int_rmul (typeIs_int s 1 t) F.entry_int_rmul (F.args_int_rmul_2 _ _)
          (int_rmul_tuple 1 t l its.toArray n dd sl)
          ⟨ho, rfl, ⟨_, ho, rfl⟩, call_meets F.slot_tuple_mul ⟨_, ho, rfl⟩ F.entry_tuple_mul
            (F.args_tuple_mul_2 _ _) (tup_mul_one l its.toArray n dd sl t) ⟨ho, ?_⟩⟩)
      refine ⟨.ref l, H, I, rfl, q l H (Same.refl H) ?_⟩
      have e : (List.replicate (Int.toNat 1) xs).flatten = xs := by simp
      rw [e]
      exact hT
    · have hi : its.toArray.isEmpty = false := by
        have hle : its.length = xs.length := r.length.symm
        cases its with
        | nil => exact absurd (List.eq_nil_of_length_eq_zero hle.symm) hne
        | cons a b => rfl
      refine wpAny_binaryOp_repeat_ref (T := "tuple") (U := "int") (by decide) ⟨_, ho, rfl⟩
        (fun s' => typeIs_int s' k t) noFill_tuple_mul F.fills_int_mul F.slot_int_rmul repeat_tuple
        F.slot_int_index.lookup
        (call_meets F.slot_int_rmul (typeIs_int s k t) F.entry_int_rmul (F.args_int_rmul_2 _ _)
          (int_rmul_tuple k t l its.toArray n dd sl)
          ⟨ho, rfl, ⟨_, ho, rfl⟩, call_meets F.slot_tuple_mul ⟨_, ho, rfl⟩ F.entry_tuple_mul
            (F.args_tuple_mul_2 _ _) (tup_mul_none l its.toArray n dd sl k t (by omega) h1 hi) ⟨ho, ?_⟩⟩)
      have nf : H s.heap.objs.size = none := I.hok.fresh (Nat.le_refl _)
      refine ⟨.ref s.heap.objs.size, upd H s.heap.objs.size (.tup []), I.laid (t' := s.toks)
        (o := .tup []) (fun b ob q => Heap.get?_push_of_some _ q) (Nat.le_refl _) ?_, rfl, ?_⟩
      · exact ⟨Nat.zero_le _, [], .nil, IsTup.new _ _⟩
      · refine q _ _ (Same.new nf) ?_
        have e : (List.replicate k.toNat xs).flatten = [] := by
          rw [show k.toNat = 0 from by omega]
          rfl
        rw [e]
        exact SqT.of upd_same
end
end Gd
namespace Gd
open PySem PySem.Spec PyProof.Rows L2
/-! ### data of tuples -/
/-- all that is no list is kept -/
def Tk (H H' : Hp) : Prop := ∀ b o, (∀ xs, o ≠ .lst xs) → H b = some o → H' b = some o
theorem Tk.refl (H : Hp) : Tk H H := fun _ _ _ h => h
theorem Tk.trans {H H1 H2 : Hp} (x : Tk H H1) (y : Tk H1 H2) : Tk H H2 :=
  fun b o n h => y b o n (x b o n h)
theorem Tk.of {H H' : Hp} (e : Same H H') : Tk H H' := fun b o _ h => e b o h
theorem Tk.sb {a : Addr} {H H' : Hp} {xs : List V} (ha : H a = some (.lst xs)) (e : Sb a H H') :
    Tk H H' := fun b o n h => by
  refine e b o ?_ h
  rintro rfl
  rw [ha] at h
  cases h
  exact n _ rfl
theorem Tk.lst {H : Hp} {p : Addr} {o : HO} {xs : List V} (h : H p = some (.lst xs)) :
    Tk H (upd H p o) := fun b u n hb => by
  rw [upd_ne ?_]
  · exact hb
  · rintro rfl
    rw [h] at hb
    cases hb
    exact n _ rfl
mutual
/-- no list, no dict within -/
def tupOnly : PyData → Bool
  | .none | .bool _ | .int _ | .str _ => true
  | .tuple ds => tupAll ds
  | .list _ | .dict _ => false
def tupAll : List PyData → Bool
  | [] => true
  | d :: ds => tupOnly d && tupAll ds
end
theorem tupAll_iff : ∀ ds : List PyData, tupAll ds = true ↔ ∀ d ∈ ds, tupOnly d = true
  | [] => by simp [tupAll]
  | d :: ds => by
    simp only [tupAll, Bool.and_eq_true, List.mem_cons, forall_eq_or_imp, tupAll_iff ds]
theorem sqt_tk {K : PySem.W.Frag} {H H' : Hp} {a : Addr} {xs : List V} (e : Tk H H')
    (h : SqT K H a xs) : SqT K H' a xs := by
  rcases h with (h | ⟨o, h⟩) | h
  · exact Or.inl (Or.inl (e _ _ (fun _ z => by cases z) h))
  · exact Or.inl (Or.inr ⟨o, e _ _ (fun _ z => by cases z) h⟩)
  · exact Or.inr h
mutual
theorem Dp.tk {K : PySem.W.Frag} {H H' : Hp} (e : Tk H H') : ∀ (d : PyData) (v : V),
    tupOnly d = true → Dp K H v d → Dp K H' v d
  | .none, _, _, h => by cases h; exact .non
  | .bool b, _, _, h => by cases h; exact .bl b
  | .int i, _, _, h => by cases h; exact .int i
  | .str x, _, _, h => by cases h; exact .str x
  | .list ds, _, t, h => by simp [tupOnly] at t
  | .tuple ds, _, t, h => by
    cases h with
    | tup hs ha => exact .tup (sqt_tk e hs) (DpAll.tk e ds _ (by simpa [tupOnly] using t) ha)
  | .dict _, _, t, h => by simp [tupOnly] at t
theorem DpAll.tk {K : PySem.W.Frag} {H H' : Hp} (e : Tk H H') : ∀ (ds : List PyData)
    (vs : List V), tupAll ds = true → DpAll K H vs ds → DpAll K H' vs ds
  | [], _, _, h => by cases h; exact .nil
  | d :: ds, _, t, h => by
    have t' : tupOnly d = true ∧ tupAll ds = true := by simpa [tupAll] using t
    cases h with
    | cons h1 h2 => exact .cons (Dp.tk e d _ t'.1 h1) (DpAll.tk e ds _ t'.2 h2)
end
theorem dp_tup {K : PySem.W.Frag} {H : Hp} {v : V} {ds : List PyData} (h : Dp K H v (.tuple ds)) :
    ∃ a xs, v = .ref a ∧ SqT K H a xs ∧ DpAll K H xs ds := by
  cases h with
  | tup hs ha => exact ⟨_, _, rfl, hs, ha⟩
theorem dp_lst {K : PySem.W.Frag} {H : Hp} {v : V} {ds : List PyData} (h : Dp K H v (.list ds)) :
    ∃ a xs, v = .ref a ∧ SqL K H a xs ∧ DpAll K H xs ds := by
  cases h with
  | lst hs ha => exact ⟨_, _, rfl, hs, ha⟩
theorem dp_int {K : PySem.W.Frag} {H : Hp} {v : V} {i : Int} (h : Dp K H v (.int i)) : v = .int i := by
  cases h
  rfl
theorem dpa_cons {K : PySem.W.Frag} {H : Hp} {xs : List V} {d : PyData} {ds : List PyData}
    (h : DpAll K H xs (d :: ds)) : ∃ v vs, xs = v :: vs ∧ Dp K H v d ∧ DpAll K H vs ds := by
  cases h with
  | cons h1 h2 => exact ⟨_, _, rfl, h1, h2⟩
theorem dpa_nil {K : PySem.W.Frag} {H : Hp} {xs : List V} (h : DpAll K H xs []) : xs = [] := by
  cases h
  rfl
theorem dpa_ints {K : PySem.W.Frag} {H : Hp} : ∀ (r : List Int) (xs : List V),
    DpAll K H xs (r.map PyData.int) → xs = r.map V.int
  | [], xs, h => dpa_nil h
  | i :: r, xs, h => by
    obtain ⟨v, vs, rfl, h1, h2⟩ := dpa_cons h
    rw [dp_int h1, dpa_ints r vs h2]
    rfl
theorem dpa_len {K : PySem.W.Frag} {H : Hp} : ∀ (ds : List PyData) (xs : List V),
    DpAll K H xs ds → xs.length = ds.length
  | [], xs, h => by rw [dpa_nil h]; rfl
  | d :: ds, xs, h => by
    obtain ⟨v, vs, rfl, _, h2⟩ := dpa_cons h
    simp [dpa_len ds vs h2]
theorem dpa_get {K : PySem.W.Frag} {H : Hp} : ∀ (ds : List PyData) (xs : List V) (i : Nat) (x : V),
    DpAll K H xs ds → xs[i]? = some x → ∃ d, ds[i]? = some d ∧ Dp K H x d
  | [], xs, i, x, h, e => by rw [dpa_nil h] at e; simp at e
  | d :: ds, xs, i, x, h, e => by
    obtain ⟨v, vs, rfl, h1, h2⟩ := dpa_cons h
    cases i with
    | zero =>
      simp at e
      subst e
      exact ⟨d, rfl, h1⟩
    | succ i => exact dpa_get ds vs i x h2 (by simpa using e)
theorem dpa_at {K : PySem.W.Frag} {H : Hp} : ∀ (ds : List PyData) (xs : List V) (i : Nat) (d : PyData),
    DpAll K H xs ds → ds[i]? = some d → ∃ x, xs[i]? = some x ∧ Dp K H x d
  | [], xs, i, d, h, e => by simp at e
  | d0 :: ds, xs, i, d, h, e => by
    obtain ⟨v, vs, rfl, h1, h2⟩ := dpa_cons h
    cases i with
    | zero =>
      simp at e
      subst e
      exact ⟨v, rfl, h1⟩
    | succ i => exact dpa_at ds vs i d h2 (by simpa using e)
theorem dpa_snoc {K : PySem.W.Frag} {H : Hp} : ∀ (ds : List PyData) (xs : List V) (v : V) (d : PyData),
    DpAll K H xs ds → Dp K H v d → DpAll K H (xs ++ [v]) (ds ++ [d])
  | [], xs, v, d, h, e => by rw [dpa_nil h]; exact .cons e .nil
  | d0 :: ds, xs, v, d, h, e => by
    obtain ⟨x, vs, rfl, h1, h2⟩ := dpa_cons h
    exact .cons h1 (dpa_snoc ds vs v d h2 e)
theorem dpa_append {K : PySem.W.Frag} {H : Hp} : ∀ (ds es : List PyData) (xs ys : List V),
    DpAll K H xs ds → DpAll K H ys es → DpAll K H (xs ++ ys) (ds ++ es)
  | [], es, xs, ys, h, e => by rw [dpa_nil h]; exact e
  | d0 :: ds, es, xs, ys, h, e => by
    obtain ⟨x, vs, rfl, h1, h2⟩ := dpa_cons h
    exact .cons h1 (dpa_append ds es vs ys h2 e)
/-! ### rows and tables -/
def rowD (r : List Int) : PyData := .tuple (r.map .int)
def rowsD (rs : List (List Int)) : PyData := .tuple (rs.map rowD)
def tabD (w : Int) (rs : List (List Int)) : PyData := .tuple [.int w, rowsD rs]
theorem ints_tup : ∀ r : List Int, tupAll (r.map .int) = true
  | [] => by simp [tupAll]
  | i :: r => by simp [tupAll, tupOnly, ints_tup r]
theorem rowD_tup (r : List Int) : tupOnly (rowD r) = true := by simp [rowD, tupOnly, ints_tup]
theorem rows_tup : ∀ rs : List (List Int), tupAll (rs.map rowD) = true
  | [] => by simp [tupAll]
  | r :: rs => by simp [tupAll, rowD_tup, rows_tup rs]
theorem rowsD_tup (rs : List (List Int)) : tupOnly (rowsD rs) = true := by simp [rowsD, tupOnly, rows_tup]
theorem tabD_tup (w : Int) (rs : List (List Int)) : tupOnly (tabD w rs) = true := by
  simp [tabD, tupOnly, tupAll, rowsD_tup]
theorem dp_row {K : PySem.W.Frag} {H : Hp} {v : V} {r : List Int} (h : Dp K H v (rowD r)) :
    ∃ p, v = .ref p ∧ SqT K H p (r.map V.int) := by
  obtain ⟨a, xs, rfl, hs, ha⟩ := dp_tup h
  rw [dpa_ints r xs ha] at hs
  exact ⟨a, rfl, hs⟩
theorem dp_rows {K : PySem.W.Frag} {H : Hp} {v : V} {rs : List (List Int)} (h : Dp K H v (rowsD rs)) :
    ∃ p xs, v = .ref p ∧ SqT K H p xs ∧ DpAll K H xs (rs.map rowD) ∧ xs.length = rs.length := by
  obtain ⟨a, xs, rfl, hs, ha⟩ := dp_tup h
  exact ⟨a, xs, rfl, hs, ha, by rw [dpa_len _ _ ha, List.length_map]⟩
theorem dp_tab {K : PySem.W.Frag} {H : Hp} {v : V} {w : Int} {rs : List (List Int)}
    (h : Dp K H v (tabD w rs)) : ∃ p u, v = .ref p ∧ SqT K H p [.int w, u] ∧ Dp K H u (rowsD rs) := by
  obtain ⟨a, xs, rfl, hs, ha⟩ := dp_tup h
  obtain ⟨v1, vs, rfl, h1, h2⟩ := dpa_cons ha
  obtain ⟨v2, vs, rfl, h3, h4⟩ := dpa_cons h2
  rw [dpa_nil h4] at hs
  rw [dp_int h1] at hs
  exact ⟨a, v2, rfl, hs, h3⟩
theorem mk_row {K : PySem.W.Frag} {H : Hp} {p : Addr} {r : List Int} (h : SqT K H p (r.map V.int)) :
    Dp K H (.ref p) (rowD r) := by
  refine .tup h ?_
  clear h
  induction r with
  | nil => exact .nil
  | cons i r ih => exact .cons (.int i) ih
theorem mk_tab {K : PySem.W.Frag} {H : Hp} {p : Addr} {w : Int} {u : V} {rs : List (List Int)}
    (h : SqT K H p [.int w, u]) (hu : Dp K H u (rowsD rs)) : Dp K H (.ref p) (tabD w rs) :=
  .tup h (.cons (.int w) (.cons hu .nil))
theorem rows_at {K : PySem.W.Frag} {H : Hp} {xs : List V} {rs : List (List Int)} {i : Nat} {x : V}
    (h : DpAll K H xs (rs.map rowD)) (e : xs[i]? = some x) :
    rs[i]? = some (rs.getD i []) ∧ Dp K H x (rowD (rs.getD i [])) := by
  obtain ⟨d, h1, h2⟩ := dpa_get _ _ i x h e
  rw [List.getElem?_map] at h1
  cases q : rs[i]? with
  | none => rw [q] at h1; cases h1
  | some r =>
    rw [q] at h1
    cases h1
    have e2 : rs.getD i [] = r := by rw [List.getD_eq_getElem?_getD, q]; rfl
    rw [e2]
    exact ⟨rfl, h2⟩
theorem at_row {r : List Int} {i : Nat} (h : i < r.length) :
    atI (r.map V.int) (i : Int) = some (V.int (r.getD i 0)) := by
  refine atI_nat ?_
  rw [List.getElem?_map, List.getElem?_eq_getElem h, List.getD_eq_getElem?_getD,
    List.getElem?_eq_getElem h]
  rfl
/-! ### comprehensions that change nothing -/
section
variable {K : PySem.W.Frag}
/-- what stands at the list under way: the first i data -/
def Lw (K : PySem.W.Frag) (H : Hp) (f : Nat → PyData) (D : Addr) (i : Nat) (H' : Hp) : Prop :=
  Same H H' ∧ ∃ ys, H' D = some (.lst ys) ∧ DpAll K H' ys ((List.range i).map f)
theorem Lw.start {H : Hp} {f : Nat → PyData} {D : Addr} (h : H D = none) :
    Lw K H f D 0 (upd H D (.lst [])) := ⟨Same.new h, [], upd_same, .nil⟩
theorem Lw.len {H H' : Hp} {f : Nat → PyData} {D : Addr} {i : Nat} (h : Lw K H f D i H') :
    ∃ ys, H' D = some (.lst ys) ∧ ys.length = i := by
  obtain ⟨_, ys, h1, h2⟩ := h
  refine ⟨ys, h1, ?_⟩
  rw [dpa_len _ _ h2, List.length_map, List.length_range]
theorem Lw.turn {H H' H'' : Hp} {f : Nat → PyData} {D : Addr} {i : Nat} {y : V} (hD : H D = none)
    (ht : ∀ j, j ≤ i → tupOnly (f j) = true) (h : Lw K H f D i H') (e : Same H' H'')
    (hy : Dp K H'' y (f i)) (hi : i < 100000) :
    ∃ acc, H'' D = some (.lst acc) ∧ acc.length < sizeLine ∧
      Lw K H f D (i + 1) (upd H'' D (.lst (acc ++ [y]))) := by
  obtain ⟨h0, ys, h1, h2⟩ := h
  have h1' := e _ _ h1
  have hl : ys.length = i := by rw [dpa_len _ _ h2, List.length_map, List.length_range]
  refine ⟨ys, h1', by rw [hl]; exact Nat.lt_trans hi (by decide), Same.mut (h0.trans e) hD, _, upd_same, ?_⟩
  rw [List.range_succ, List.map_append]
  have tk : Tk H'' (upd H'' D (.lst (ys ++ [y]))) := Tk.lst h1'
  refine dpa_snoc _ _ _ _ (DpAll.tk tk _ _ ?_ (DpAll.same e _ _ h2)) (Dp.tk tk _ _ (ht i (Nat.le_refl _)) hy)
  rw [tupAll_iff]
  intro d hd
  obtain ⟨j, hj, rfl⟩ := List.mem_map.mp hd
  exact ht j (Nat.le_of_lt (List.mem_range.mp hj))
end
end Gd
namespace Gd
open PySem PySem.Spec PyProof.Rows L2
section
variable {K : PySem.W.Frag} {te : TE} {vs : List Nat} {σ : L2.St} {H : Hp} {D : Addr} {Qd : Hp → Prop}
theorem tupOnly_le {f : Nat → PyData} {n i : Nat} (ht : ∀ j, j < n → tupOnly (f j) = true) (hi : i < n) :
    ∀ j, j ≤ i → tupOnly (f j) = true := fun j hj => ht j (Nat.lt_of_le_of_lt hj hi)
/-- [e for x in range(n)], e data of tuples that changes nothing -/
theorem lcr {j n : Nat} (f : Nat → PyData) (hD : H D = none) (hn : n ≤ 50000)
    (ht : ∀ i, i < n → tupOnly (f i) = true)
    (hw : ∀ x, wipe ((wipe σ vs).set j (some x)) vs = wipe σ vs)
    (hs : ∀ (i : Nat) (H1 : Hp) (Q : VK), i < n → Same H H1 →
      (∀ y H2, Same H1 H2 → Dp K H2 y (f i) → Q y H2) →
      te ((wipe σ vs).set j (some (.int (0 + (i : Int))))) H1 Q)
    (hd : ∀ H' ys, Same H H' → H' D = some (.lst ys) → DpAll K H' ys ((List.range n).map f) → Qd H') :
    ∃ W : Nat → Nat → Hp → Prop, (∃ m, W 0 m (upd H D (.lst []))) ∧ ∀ i m H, W i m H →
      ((Itr 0 n).stop i H ∧ Qd H) ∨ ((Itr 0 n).go i H ∧ ∃ Nx : Hp → Prop,
        (∀ H', Nx H' → ∃ m', m' < m ∧ W (i + 1) m' H') ∧
        ∀ x H', (Itr 0 n).yld i H x H' → gName j x (wipe σ vs) H' fun σ2 H2 =>
          wipe σ2 vs = wipe σ vs ∧ tYes σ2 H2 fun b H3 =>
            if b = true then te σ2 H3 fun y H4 => ∃ acc, H4 D = some (.lst acc) ∧
              acc.length < sizeLine ∧ Nx (upd H4 D (.lst (acc ++ [y]))) else Nx H3) := by
  refine lc_range (lo := 0) (n := n) (Lw K H f D) (Lw.start hD) ?_ ?_
  · intro i H' hi p
    refine ⟨hw _, ?_⟩
    unfold tYes
    dsimp only
    rw [if_pos rfl]
    exact hs i H' _ hi p.1 fun y H2 e hy => Lw.turn hD (tupOnly_le ht hi) p e hy (by omega)
  · rintro H' ⟨h0, ys, h1, h2⟩
    exact hd H' ys h0 h1 h2
/-- [e for x in t], t a tuple -/
theorem lct {j : Nat} {a : Addr} {xs : List V} (f : Nat → PyData) (hD : H D = none)
    (hx : SqT K H a xs) (hn : xs.length ≤ 50000)
    (ht : ∀ i, i < xs.length → tupOnly (f i) = true)
    (hw : ∀ x, wipe ((wipe σ vs).set j (some x)) vs = wipe σ vs)
    (hs : ∀ (i : Nat) (x : V) (H1 : Hp) (Q : VK), xs[i]? = some x → Same H H1 →
      (∀ y H2, Same H1 H2 → Dp K H2 y (f i) → Q y H2) →
      te ((wipe σ vs).set j (some x)) H1 Q)
    (hd : ∀ H' ys, Same H H' → H' D = some (.lst ys) → DpAll K H' ys ((List.range xs.length).map f) → Qd H') :
    ∃ W : Nat → Nat → Hp → Prop, (∃ m, W 0 m (upd H D (.lst []))) ∧ ∀ i m H, W i m H →
      ((Itt K a).stop i H ∧ Qd H) ∨ ((Itt K a).go i H ∧ ∃ Nx : Hp → Prop,
        (∀ H', Nx H' → ∃ m', m' < m ∧ W (i + 1) m' H') ∧
        ∀ x H', (Itt K a).yld i H x H' → gName j x (wipe σ vs) H' fun σ2 H2 =>
          wipe σ2 vs = wipe σ vs ∧ tYes σ2 H2 fun b H3 =>
            if b = true then te σ2 H3 fun y H4 => ∃ acc, H4 D = some (.lst acc) ∧
              acc.length < sizeLine ∧ Nx (upd H4 D (.lst (acc ++ [y]))) else Nx H3) := by
  refine lc_tup (xs := xs) (Lw K H f D) (Lw.start hD) (fun i H' _ p => sqt_same p.1 hx) ?_ ?_
  · intro i x H' hi p
    have hlt := (List.getElem?_eq_some_iff.mp hi).1
    refine ⟨hw _, ?_⟩
    unfold tYes
    dsimp only
    rw [if_pos rfl]
    exact hs i x H' _ hi p.1 fun y H2 e hy => Lw.turn hD (tupOnly_le ht hlt) p e hy (by omega)
  · rintro H' ⟨h0, ys, h1, h2⟩
    exact hd H' ys h0 h1 h2
/-- [e for x, y in zip(t, u)], tuples of one length -/
theorem lcz {g : TG} {j1 j2 : Nat} {a b : Addr} {xs zs : List V} (f : Nat → PyData) (hD : H D = none)
    (hl : xs.length = zs.length) (hx : SqT K H a xs) (hz : SqT K H b zs) (hn : xs.length ≤ 50000)
    (ht : ∀ i, i < xs.length → tupOnly (f i) = true)
    (hw : ∀ x y, wipe (((wipe σ vs).set j1 (some x)).set j2 (some y)) vs = wipe σ vs)
    (hg : ∀ (T : Addr) (x y : V) (H1 : Hp) (R : L2.St → Hp → Prop), H1 T = some (.tup [x, y]) →
      R (((wipe σ vs).set j1 (some x)).set j2 (some y)) H1 → g (.ref T) (wipe σ vs) H1 R)
    (hs : ∀ (i : Nat) (x y : V) (H1 : Hp) (Q : VK), xs[i]? = some x → zs[i]? = some y → Same H H1 →
      (∀ y H2, Same H1 H2 → Dp K H2 y (f i) → Q y H2) →
      te (((wipe σ vs).set j1 (some x)).set j2 (some y)) H1 Q)
    (hd : ∀ H' ys, Same H H' → H' D = some (.lst ys) → DpAll K H' ys ((List.range xs.length).map f) → Qd H') :
    ∃ W : Nat → Nat → Hp → Prop, (∃ m, W 0 m (upd H D (.lst []))) ∧ ∀ i m H, W i m H →
      ((RZ.ItzT K a b).stop i H ∧ Qd H) ∨ ((RZ.ItzT K a b).go i H ∧ ∃ Nx : Hp → Prop,
        (∀ H', Nx H' → ∃ m', m' < m ∧ W (i + 1) m' H') ∧
        ∀ x H', (RZ.ItzT K a b).yld i H x H' → g x (wipe σ vs) H' fun σ2 H2 =>
          wipe σ2 vs = wipe σ vs ∧ tYes σ2 H2 fun b H3 =>
            if b = true then te σ2 H3 fun y H4 => ∃ acc, H4 D = some (.lst acc) ∧
              acc.length < sizeLine ∧ Nx (upd H4 D (.lst (acc ++ [y]))) else Nx H3) := by
  refine ⟨fun i m H' => m = xs.length - i ∧ i ≤ xs.length ∧ Lw K H f D i H',
    ⟨xs.length, rfl, Nat.zero_le _, Lw.start hD⟩, ?_⟩
  rintro i m H' ⟨rfl, hi, p⟩
  have qx := sqt_same p.1 hx
  have qz := sqt_same p.1 hz
  by_cases hlt : i < xs.length
  · have e1 : xs[i]? = some xs[i] := List.getElem?_eq_getElem hlt
    have hlt2 : i < zs.length := by omega
    have e2 : zs[i]? = some zs[i] := List.getElem?_eq_getElem hlt2
    refine .inr ⟨⟨xs, zs, _, _, qx, qz, e1, e2⟩, Lw K H f D (i + 1),
      fun H2 p2 => ⟨xs.length - (i + 1), by omega, rfl, hlt, p2⟩, ?_⟩
    intro v H2 hy
    obtain ⟨T, x', y', rfl, hT, rfl, f1, f2⟩ := hy
    have eT := Same.new (o := .tup [x', y']) hT
    refine hg T x' y' _ _ upd_same ⟨hw _ _, ?_⟩
    unfold tYes
    dsimp only
    rw [if_pos rfl]
    refine hs i x' y' _ _ (f1 xs qx) (f2 zs qz) (p.1.trans eT) ?_
    intro y H3 e hy
    exact Lw.turn hD (tupOnly_le ht hlt) p (eT.trans e) hy (by omega)
  · have e : i = xs.length := by omega
    subst e
    obtain ⟨h0, ys, h1, h2⟩ := p
    exact .inl ⟨⟨xs, zs, qx, qz, Or.inl (Nat.le_refl _)⟩, hd H' ys h0 h1 h2⟩
end
end Gd
namespace Gd
open PySem PySem.Spec PyProof.Rows L2
/-! ### tables of numbers, reckoned -/
def ent (rs : List (List Int)) (i k : Nat) : Int := (rs.getD i []).getD k 0
def unitRow (n k : Nat) : List Int := (List.range n).map fun c => if c = k then 1 else 0
def unitR (n : Nat) : List (List Int) := (List.range n).map (unitRow n)
def mulRow (r : List Int) (w : Nat) (rs : List (List Int)) : List Int :=
  (List.range w).map fun k => ((List.range r.length).map fun i => r.getD i 0 * ent rs i k).sum
def mulR (rs : List (List Int)) (w : Nat) (ts : List (List Int)) : List (List Int) :=
  (List.range rs.length).map fun i => mulRow (rs.getD i []) w ts
def turnR (w : Nat) (rs : List (List Int)) : List (List Int) :=
  (List.range w).map fun k => (List.range rs.length).map fun i => ent rs i k
/-- a table of this width, not too great -/
def Tb (w : Nat) (rs : List (List Int)) : Prop := rs.length ≤ 1000 ∧ w ≤ 1000 ∧ ∀ r ∈ rs, r.length = w
/-- numbers of less than 64 bits -/
def Sm (r : List Int) : Prop := ∀ x ∈ r, -(2 ^ 64) < x ∧ x < 2 ^ 64
theorem getD_mem {α : Type} {l : List α} {i : Nat} {d : α} (h : i < l.length) : l.getD i d ∈ l := by
  rw [List.getD_eq_getElem?_getD, List.getElem?_eq_getElem h]
  exact List.getElem_mem h
theorem Tb.len {w : Nat} {rs : List (List Int)} (h : Tb w rs) {i : Nat} (hi : i < rs.length) :
    (rs.getD i []).length = w := h.2.2 _ (getD_mem hi)
theorem Sm.at {r : List Int} (h : Sm r) (i : Nat) : -(2 ^ 64) < r.getD i 0 ∧ r.getD i 0 < 2 ^ 64 := by
  by_cases hi : i < r.length
  · exact h _ (getD_mem hi)
  · rw [List.getD_eq_getElem?_getD, List.getElem?_eq_none (by omega)]
    exact ⟨by decide, by decide⟩
theorem at_row0 {r : List Int} {i : Nat} (h : i < r.length) :
    atI (r.map V.int) (0 + (i : Int)) = some (V.int (r.getD i 0)) := by
  rw [Int.zero_add]
  exact at_row h
theorem mk_rowR {K : PySem.W.Frag} {H : Hp} {p : Addr} {ys : List V} {n : Nat} {g : Nat → Int}
    (h : SqT K H p ys) (ha : DpAll K H ys ((List.range n).map fun i => PyData.int (g i))) :
    Dp K H (.ref p) (rowD ((List.range n).map g)) := by
  unfold rowD
  rw [List.map_map]
  exact .tup h ha
theorem mk_rowsR {K : PySem.W.Frag} {H : Hp} {p : Addr} {ys : List V} {n : Nat} {g : Nat → List Int}
    (h : SqT K H p ys) (ha : DpAll K H ys ((List.range n).map fun i => rowD (g i))) :
    Dp K H (.ref p) (rowsD ((List.range n).map g)) := by
  unfold rowsD
  rw [List.map_map]
  exact .tup h ha
theorem intsR {K : PySem.W.Frag} {H : Hp} {ys : List V} {n : Nat} {g : Nat → Int}
    (ha : DpAll K H ys ((List.range n).map fun i => PyData.int (g i))) :
    ys = ((List.range n).map g).map V.int := by
  refine dpa_ints (K := K) (H := H) _ _ ?_
  rw [List.map_map]
  exact ha
theorem row_get {r : List Int} {i : Nat} {x : V} (e : (r.map V.int)[i]? = some x) :
    i < r.length ∧ x = .int (r.getD i 0) := by
  rw [List.getElem?_map] at e
  cases q : r[i]? with
  | none => rw [q] at e; cases e
  | some z =>
    rw [q] at e
    cases e
    refine ⟨(List.getElem?_eq_some_iff.mp q).1, ?_⟩
    rw [List.getD_eq_getElem?_getD, q]
    rfl
theorem rows_lt {K : PySem.W.Frag} {H : Hp} {xs : List V} {rs : List (List Int)} {i : Nat} {x : V}
    (h : DpAll K H xs (rs.map rowD)) (e : xs[i]? = some x) :
    i < rs.length ∧ ∃ p, x = .ref p ∧ SqT K H p ((rs.getD i []).map V.int) := by
  obtain ⟨h1, h2⟩ := rows_at h e
  exact ⟨(List.getElem?_eq_some_iff.mp h1).1, dp_row h2⟩
theorem rows_ix {K : PySem.W.Frag} {H : Hp} {xs : List V} {rs : List (List Int)} {i : Nat}
    (h : DpAll K H xs (rs.map rowD)) (hi : i < rs.length) :
    ∃ p, xs[i]? = some (.ref p) ∧ SqT K H p ((rs.getD i []).map V.int) := by
  have hl : xs.length = rs.length := by rw [dpa_len _ _ h, List.length_map]
  have e : xs[i]? = some xs[i] := List.getElem?_eq_getElem (by omega)
  obtain ⟨_, p, hp, hs⟩ := rows_lt h e
  rw [hp] at e
  exact ⟨p, e, hs⟩
end Gd
namespace Gd
open PySem PySem.Spec PyProof.Rows L2
/-! ### rules that name the written part by its letter -/
section
variable {X : Cx} {K : PySem.W.Frag}
theorem ix_tupK (hK : X.K = K) : IxR X (rIxT K) := by subst hK; exact ix_tup
theorem ix_listK (hK : X.K = K) : IxR X (rIxL K) := by subst hK; exact ix_list
theorem sl_listK (hK : X.K = K) : SlR X (rSlL K) := by subst hK; exact sl_list
theorem sl_tupK (hK : X.K = K) : SlR X (rSlA K) := by subst hK; exact sl_tupA
def rLenK (K : PySem.W.Frag) : List V → Hp → VK → Prop := fun xs H Q =>
  ∃ p ys, xs = [.ref p] ∧ (SqL K H p ys ∨ SqT K H p ys) ∧ Q (.int ys.length) H
theorem call_lenK (hK : X.K = K) : CallR X (.builtin "len") (rLenK K) := by
  subst hK; exact call_len_seq
def rTupleK (K : PySem.W.Frag) : List V → Hp → VK → Prop := fun xs H Q =>
  ∃ p ys, xs = [.ref p] ∧ ((SqL K H p ys ∧ ∀ l, H l = none → Q (.ref l) (upd H l (.tup ys))) ∨
    (SqT K H p ys ∧ Q (.ref p) H))
theorem call_tupleK (hK : X.K = K) : CallR X (.type "tuple") (rTupleK K) := by
  subst hK; exact call_tuple_of
def rListK (K : PySem.W.Frag) : List V → Hp → VK → Prop := fun xs H Q =>
  ∃ p ys, xs = [.ref p] ∧ (SqL K H p ys ∨ SqT K H p ys) ∧
    ∀ l, H l = none → Q (.ref l) (upd H l (.lst ys))
theorem call_listK (hK : X.K = K) : CallR X (.type "list") (rListK K) := by
  subst hK; exact call_list_of
theorem call_sumK (hK : X.K = K) (hc : X.calm = true) : CallR X (.builtin "sum") (rSum K) := by
  subst hK; exact cr_sum hc
theorem op_eqK (hK : X.K = K) (hu : X.A.units + 64 < cLine) : OpR X (compareOp .Eq) (rEqD K) := by
  subst hK; exact op_eqD hu
theorem op_neK (hK : X.K = K) (hu : X.A.units + 64 < cLine) : OpR X (compareOp .NotEq) (rNeD K) := by
  subst hK; exact op_neD hu
theorem op_catK (hK : X.K = K) : OpR X (binaryOp .Add) (rCatA K) := by subst hK; exact op_catA
theorem op_repK (hK : X.K = K) : OpR X (binaryOp .Mult) (rRepA K) := by subst hK; exact op_repA
theorem call_reprK (hK : X.K = K) (hG : X.A.guards = some []) (hu : X.A.units + 64 < cLine) :
    CallR X (.builtin "repr") (rRepr K) := by
  subst hK; exact call_repr hG hu
theorem pi_listK {tg l : Expr} {tl : TE} (hK : X.K = K) (hl : PE X l tl) : PI X tg l (iList K tl) := by
  subst hK; exact pi_list hl
theorem pi_tupK {tg l : Expr} {tl : TE} (hK : X.K = K) (hl : PE X l tl) : PI X tg l (iTup K tl) := by
  subst hK; exact pi_tup hl
theorem pi_zipK {e e2 : Expr} {ta : TA} {p pos tpos : Pos} {elts : List Expr} {kk : Nat}
    (hK : X.K = K) (hg : Gl X "zip") (hm : X.mg "zip" = none) (ha : PA X [e, e2] ta)
    (hs : starEach [e, e2] X.env = (false, eval e X.env) :: starEach [e2] X.env := by rfl)
    (hpl : (backTo pos (starEach [e2] X.env)).any (·.1) = false := by rfl) :
    PI X (.Tuple elts kk tpos) (.Call (.Name "zip" p) [e, e2] [] pos) (RZ.iZipA K ta) := by
  subst hK; exact RZ.pi_zipA hg hm ha hs hpl
theorem pg_tupK {es : List Expr} {k n : Nat} {t : TGs} {pos : Pos} (hK : X.K = K) (hc : X.calm = true)
    (h : PGs X es t) (hn : (assignEach es X.env).length = n := by rfl)
    (hst : (assignEach es X.env).findIdx? (·.1) = none := by rfl) :
    PG X (.Tuple es k pos) (gTup K n t) := by
  subst hK; exact pg_tup hc h hn hst
end
end Gd
namespace Gd
open PySem PySem.Spec PyProof.Rows L2
/-! ### readings told by data -/
section
variable {K : PySem.W.Frag} {H : Hp} {Q : VK} {x y : V} {ds es : List PyData} {d : PyData}
theorem ix_dp {i : Nat} (hx : Dp K H x (.tuple ds)) (hi : ds[i]? = some d)
    (k : ∀ v, Dp K H v d → Q v H) : rIxT K x (.int (i : Int)) H Q := by
  obtain ⟨a, xs, rfl, hs, ha⟩ := dp_tup hx
  obtain ⟨v, hv, hd⟩ := dpa_at _ _ i d ha hi
  exact ⟨a, xs, _, v, rfl, rfl, hs, atI_nat hv, k v hd⟩
theorem ix_dp0 {i : Nat} (hx : Dp K H x (.tuple ds)) (hi : ds[i]? = some d)
    (k : ∀ v, Dp K H v d → Q v H) : rIxT K x (.int (0 + (i : Int))) H Q := by
  rw [Int.zero_add]
  exact ix_dp hx hi k
theorem ix_dpI {i : Int} {j : Nat} (hj : i = (j : Int)) (hx : Dp K H x (.tuple ds)) (hi : ds[j]? = some d)
    (k : ∀ v, Dp K H v d → Q v H) : rIxT K x (.int i) H Q := by
  rw [hj]
  exact ix_dp hx hi k
theorem len_dp (hx : Dp K H x (.tuple ds)) (k : Q (.int (ds.length : Int)) H) : rLenK K [x] H Q := by
  obtain ⟨a, xs, rfl, hs, ha⟩ := dp_tup hx
  refine ⟨a, xs, rfl, .inr hs, ?_⟩
  rw [dpa_len _ _ ha]
  exact k
theorem cat_dp (hx : Dp K H x (.tuple ds)) (hy : Dp K H y (.tuple es))
    (hl : ds.length + es.length ≤ 100000)
    (k : ∀ v H', Same H H' → Dp K H' v (.tuple (ds ++ es)) → Q v H') : rCatA K x y H Q := by
  obtain ⟨a, xs, rfl, hs, ha⟩ := dp_tup hx
  obtain ⟨b, ys, rfl, hs2, hb⟩ := dp_tup hy
  have l1 := dpa_len _ _ ha
  have l2 := dpa_len _ _ hb
  refine ⟨a, b, xs, ys, rfl, rfl, hs, hs2, Nat.le_trans (by omega : _ ≤ 100000) (by decide), ?_, ?_, ?_⟩
  · intro h
    subst h
    have e : ds = [] := List.eq_nil_of_length_eq_zero (by rw [← l1]; rfl)
    subst e
    exact k _ _ (Same.refl H) (.tup hs2 hb)
  · intro _ h
    subst h
    have e : es = [] := List.eq_nil_of_length_eq_zero (by rw [← l2]; rfl)
    subst e
    exact k _ _ (Same.refl H) (by rw [List.append_nil]; exact .tup hs ha)
  · intro _ _ p np
    have e := Same.new (o := .tup (xs ++ ys)) np
    exact k _ _ e (.tup (SqT.of upd_same) (dpa_append _ _ _ _ (DpAll.same e _ _ ha) (DpAll.same e _ _ hb)))
theorem ints_rep (z : Int) : ∀ n : Nat, (List.replicate n [V.int z]).flatten = (List.replicate n z).map V.int
  | 0 => rfl
  | n + 1 => by
    rw [List.replicate_succ, List.replicate_succ, List.flatten_cons, List.map_cons, ints_rep z n]
    rfl
theorem rep_dp {z k : Int} (hx : Dp K H x (rowD [z])) (h1 : -1000 ≤ k) (h2 : k ≤ 1000)
    (q : ∀ v H', Same H H' → Dp K H' v (rowD (List.replicate k.toNat z)) → Q v H') :
    rRepA K x (.int k) H Q := by
  obtain ⟨p, rfl, hs⟩ := dp_row hx
  refine ⟨p, k, _, rfl, rfl, hs, (by simp), h1, h2, (by simp), ?_⟩
  intro p2 H2 e h
  have h' : SqT K H2 p2 ((List.replicate k.toNat z).map V.int) := by
    rw [← ints_rep]
    exact h
  exact q _ _ e (mk_row h')
theorem tupL_dp {p : Addr} {ys : List V} (h : H p = some (.lst ys)) (ha : DpAll K H ys ds)
    (k : ∀ v H', Same H H' → Dp K H' v (.tuple ds) → Q v H') : rTupleK K [.ref p] H Q := by
  refine ⟨p, ys, rfl, .inl ⟨SqL.of h, fun l nl => ?_⟩⟩
  have e := Same.new (o := .tup ys) nl
  exact k _ _ e (.tup (SqT.of upd_same) (DpAll.same e _ _ ha))
theorem listT_dp (hx : Dp K H x (.tuple ds))
    (k : ∀ l H' ys, H l = none → Same H H' → H' l = some (.lst ys) → DpAll K H' ys ds → Q (.ref l) H') :
    rListK K [x] H Q := by
  obtain ⟨a, xs, rfl, hs, ha⟩ := dp_tup hx
  refine ⟨a, xs, rfl, .inr hs, fun l nl => ?_⟩
  have e := Same.new (o := .lst xs) nl
  exact k l _ xs nl e upd_same (DpAll.same e _ _ ha)
theorem tup_dp {xs : List V} (ha : DpAll K H xs ds) (hl : ds.length ≤ 100000)
    (k : ∀ v H', Same H H' → Dp K H' v (.tuple ds) → Q v H') :
    xs.length ≤ sizeLine ∧ ∀ p, H p = none → Q (.ref p) (upd H p (.tup xs)) := by
  refine ⟨?_, fun p np => ?_⟩
  · rw [dpa_len _ _ ha]
    exact Nat.le_trans hl (by decide)
  · have e := Same.new (o := .tup xs) np
    exact k _ _ e (.tup (SqT.of upd_same) (DpAll.same e _ _ ha))
theorem lst_dp {xs : List V} (ha : DpAll K H xs ds) (hl : ds.length ≤ 100000)
    (k : ∀ l H', H l = none → Same H H' → H' l = some (.lst xs) → DpAll K H' xs ds → Q (.ref l) H') :
    xs.length ≤ sizeLine ∧ ∀ p, H p = none → Q (.ref p) (upd H p (.lst xs)) := by
  refine ⟨?_, fun p np => ?_⟩
  · rw [dpa_len _ _ ha]
    exact Nat.le_trans hl (by decide)
  · have e := Same.new (o := .lst xs) np
    exact k p _ np e upd_same (DpAll.same e _ _ ha)
theorem catL_dp {l b : Addr} {xs zs : List V} (h1 : H l = some (.lst xs)) (h2 : H b = some (.lst zs))
    (ha : DpAll K H xs ds) (hb : DpAll K H zs es) (hl : ds.length + es.length ≤ 100000)
    (k : ∀ p H', H p = none → Same H H' → H' p = some (.lst (xs ++ zs)) → DpAll K H' (xs ++ zs) (ds ++ es) → Q (.ref p) H') :
    rCat (.ref l) (.ref b) H Q := by
  have l1 := dpa_len _ _ ha
  have l2 := dpa_len _ _ hb
  refine ⟨l, b, xs, zs, rfl, rfl, h1, h2, Nat.le_trans (by omega : _ ≤ 100000) (by decide), fun p np => ?_⟩
  have e := Same.new (o := .lst (xs ++ zs)) np
  exact k p _ np e upd_same (dpa_append _ _ _ _ (DpAll.same e _ _ ha) (DpAll.same e _ _ hb))
theorem rows_getD {rs : List (List Int)} {i : Nat} (hi : i < rs.length) :
    (rs.map rowD)[i]? = some (rowD (rs.getD i [])) := by
  rw [List.getElem?_map, List.getElem?_eq_getElem hi, List.getD_eq_getElem?_getD, List.getElem?_eq_getElem hi]
  rfl
theorem row_getD {r : List Int} {i : Nat} (hi : i < r.length) :
    (r.map PyData.int)[i]? = some (.int (r.getD i 0)) := by
  rw [List.getElem?_map, List.getElem?_eq_getElem hi, List.getD_eq_getElem?_getD, List.getElem?_eq_getElem hi]
  rfl
theorem mapR_row {n : Nat} {g : Nat → Int} :
    PyData.tuple ((List.range n).map fun i => PyData.int (g i)) = rowD ((List.range n).map g) := by
  unfold rowD
  rw [List.map_map]
  rfl
theorem mapR_rows {n : Nat} {g : Nat → List Int} :
    PyData.tuple ((List.range n).map fun i => rowD (g i)) = rowsD ((List.range n).map g) := by
  unfold rowsD
  rw [List.map_map]
  rfl
end
end Gd
namespace Gd
open PySem PySem.Spec PyProof.Rows L2
theorem lst_new {K : PySem.W.Frag} {H : Hp} {l : Addr} {xs : List V} {ds : List PyData} (nl : H l = none)
    (ha : DpAll K H xs ds) : ∃ H', upd H l (.lst xs) = H' ∧ Same H H' ∧ H' l = some (.lst xs) ∧ DpAll K H' xs ds :=
  ⟨_, rfl, Same.new nl, upd_same, DpAll.same (Same.new nl) _ _ ha⟩
theorem tup_new {K : PySem.W.Frag} {H : Hp} {l : Addr} {xs : List V} {ds : List PyData} (nl : H l = none)
    (ha : DpAll K H xs ds) : ∃ H', upd H l (.tup xs) = H' ∧ Same H H' ∧ Dp K H' (.ref l) (.tuple ds) :=
  ⟨_, rfl, Same.new nl, .tup (SqT.of upd_same) (DpAll.same (Same.new nl) _ _ ha)⟩
end Gd
namespace Gd
open PySem PySem.Spec PyProof.Rows L2
theorem fmod_lt' {a b : Int} (hb : 0 < b) : a.fmod b < b := Int.fmod_lt_of_pos a hb
theorem fmod_nn {a b : Int} (hb : 0 < b) : 0 ≤ a.fmod b := Int.fmod_nonneg_of_pos a hb
/-! ### the feed -/
def spFeed (K : PySem.W.Frag) : Sp := fun vs H Q _ => ∃ (sc : Addr) (ns : List Int), vs = [.ref sc] ∧
  SqL K H sc (ns.map V.int) ∧ ns.length ≤ 63 ∧
  ∀ (a s : Addr) (H' : Hp), H a = none → H s = none → Same H H' → Fd H' a s 0 → Q (.ref a) H'
def spDraw : Sp := fun vs H Q _ => ∃ (a s : Addr) (m : Int) (n : Nat),
  vs = [.ref a, .int m] ∧ Fd H a s n ∧ n ≤ 1000000 ∧ 1 ≤ m ∧ m ≤ 1000000 ∧
  ∀ (r : Int) (H' : Hp), 0 ≤ r → r < m → Sb a H H' → Fd H' a s (n + 1) → Q (.int r) H'
theorem cut_ints (ns : List Int) (lo hi : Option Int) :
    ∃ ms : List Int, cutV (ns.map V.int) lo hi = ms.map V.int ∧ ms.length ≤ ns.length := by
  refine ⟨(ns.drop (HT.sIx ns.length 0 lo)).take (HT.sIx ns.length ns.length hi - HT.sIx ns.length 0 lo), ?_, ?_⟩
  · unfold cutV
    rw [List.length_map, List.map_take, List.map_drop]
  · rw [List.length_take, List.length_drop]
    omega
theorem ints_shaped (ns : List Int) : SeqAt.shaped (.list (ns.map PyData.int)) = true := by
  have h1 : ∀ l : List Int, PyData.canLayAll0 (l.map PyData.int) = true := by
    intro l
    induction l with
    | nil => simp [PyData.canLayAll0]
    | cons a l ih => simp [PyData.canLayAll0, PyData.canLay0, ih]
  have h2 : ∀ l : List Int, PyData.depthAll (l.map PyData.int) = 0 := by
    intro l
    induction l with
    | nil => simp [PyData.depthAll]
    | cons a l ih => simp [PyData.depthAll, PyData.depth, ih]
  simp [SeqAt.shaped, PyData.canLay0, PyData.depth, h1, h2]
theorem ints_nil (ns : List Int) : PyData.eqv (.list (ns.map PyData.int)) (.list []) = decide (ns = []) := by
  cases ns <;> simp [PyData.eqv, PyData.eqvAll]
theorem dp_ints {K : PySem.W.Frag} {H : Hp} : ∀ ns : List Int, DpAll K H (ns.map V.int) (ns.map PyData.int)
  | [] => .nil
  | n :: ns => .cons (.int n) (dp_ints ns)
theorem at_ints {ns : List Int} {i : Int} (h0 : 0 ≤ i) (h1 : i < ns.length) :
    ∃ z : Int, atI (ns.map V.int) i = some (V.int z) := by
  obtain ⟨j, rfl⟩ := Int.eq_ofNat_of_zero_le h0
  have hj : j < ns.length := by omega
  exact ⟨ns[j], atI_nat (by rw [List.getElem?_map, List.getElem?_eq_getElem hj]; rfl)⟩
theorem ref_ints {s : Addr} {ns : List Int} {r : List V} : HO.lst (ns.map V.int) ≠ HO.lst (.ref s :: r) := by
  intro z
  cases ns with
  | nil => cases z
  | cons n ns => cases z

/-- numbers drawn: from lo to below hi, by at most j draws -/
def spNum (lo hi : Int) (j : Nat) : Sp := fun vs H Q _ => ∃ (a s : Addr) (n : Nat),
  vs = [.ref a] ∧ Fd H a s n ∧ n + j ≤ 1000000 ∧
  ∀ (r : Int) (H' : Hp), lo ≤ r → r < hi → Sb a H H' → Fd H' a s (n + j) → Q (.int r) H'
theorem spNum_len {lo hi : Int} {j : Nat} : ∀ vs H Q E, spNum lo hi j vs H Q E → vs.length = 1 := by
  rintro vs H Q E ⟨a, s, n, rfl, _⟩
  rfl
section
variable {te : TE} {vs : List Nat} {σ : L2.St} {H : Hp} {D : Addr} {Qd : Hp → Prop}
/-- [e for x in range(m)], e a number that draws -/
theorem lcrF {j m n c : Nat} {a s : Addr} (Pz : Int → Prop) (hD : H D = none) (hf : Fd H a s n) (hm : m ≤ 50000)
    (hw : ∀ x, wipe ((wipe σ vs).set j (some x)) vs = wipe σ vs)
    (hs : ∀ (i : Nat) (H1 : Hp) (Q : VK), i < m → Sb a H H1 → Fd H1 a s (n + c * i) →
      (∀ (z : Int) (H2 : Hp), Sb a H1 H2 → Fd H2 a s (n + c * (i + 1)) → Pz z → Q (.int z) H2) →
      te ((wipe σ vs).set j (some (.int (0 + (i : Int))))) H1 Q)
    (hd : ∀ (H' : Hp) (ns : List Int), Sb a H H' → Fd H' a s (n + c * m) → H' D = some (.lst (ns.map V.int)) →
      ns.length = m → (∀ x ∈ ns, Pz x) → Qd H') :
    ∃ W : Nat → Nat → Hp → Prop, (∃ m, W 0 m (upd H D (.lst []))) ∧ ∀ i k H, W i k H →
      ((Itr 0 m).stop i H ∧ Qd H) ∨ ((Itr 0 m).go i H ∧ ∃ Nx : Hp → Prop,
        (∀ H', Nx H' → ∃ k', k' < k ∧ W (i + 1) k' H') ∧
        ∀ x H', (Itr 0 m).yld i H x H' → gName j x (wipe σ vs) H' fun σ2 H2 =>
          wipe σ2 vs = wipe σ vs ∧ tYes σ2 H2 fun b H3 =>
            if b = true then te σ2 H3 fun y H4 => ∃ acc, H4 D = some (.lst acc) ∧
              acc.length < sizeLine ∧ Nx (upd H4 D (.lst (acc ++ [y]))) else Nx H3) := by
  obtain ⟨dA, dS⟩ := hf.apart hD
  refine lc_range (lo := 0) (n := m) (fun i H' => Sb a H H' ∧ Fd H' a s (n + c * i) ∧ ∃ ns : List Int,
    H' D = some (.lst (ns.map V.int)) ∧ ns.length = i ∧ ∀ x ∈ ns, Pz x) ?_ ?_ ?_
  · exact ⟨Sb.new hD, (hf.upd dA dS).mono (by omega), [], upd_same, rfl, fun x h => by cases h⟩
  · rintro i H' hi ⟨sb, f, ns, h1, h2, h3⟩
    refine ⟨hw _, ?_⟩
    unfold tYes
    dsimp only
    rw [if_pos rfl]
    refine hs i H' _ hi sb f ?_
    intro z H2 sb2 f2 pz
    have h1' := sb2 _ _ dA h1
    refine ⟨_, h1', ?_, (Sb.trans sb sb2).mut hD, f2.upd dA dS, ns ++ [z], ?_, ?_, ?_⟩
    · rw [List.length_map, h2]
      exact Nat.lt_of_lt_of_le (show i < 50000 by omega) (by decide)
    · rw [upd_same, List.map_append]
      rfl
    · rw [List.length_append, h2]
      rfl
    · intro x hx
      rcases List.mem_append.mp hx with h | h
      · exact h3 x h
      · rw [List.mem_singleton.mp h]
        exact pz
  · rintro H' ⟨sb, f, ns, h1, h2, h3⟩
    exact hd H' ns sb f h1 h2 h3
end
/-- a drawn table's rows -/
def OkT (m w : Nat) (rs : List (List Int)) : Prop :=
  rs.length = m ∧ ∀ r ∈ rs, r.length = w ∧ ∀ x ∈ r, -99 ≤ x ∧ x ≤ 99
theorem OkT.tb {m w : Nat} {rs : List (List Int)} (h : OkT m w rs) (hm : m ≤ 1000) (hw : w ≤ 1000) : Tb w rs :=
  ⟨by rw [h.1]; exact hm, hw, fun r hr => (h.2 r hr).1⟩
theorem OkT.sm {m w : Nat} {rs : List (List Int)} (h : OkT m w rs) : ∀ r ∈ rs, Sm r := fun r hr x hx => by
  have := (h.2 r hr).2 x hx
  omega
end Gd
namespace Gd
open PySem PySem.Spec PyProof.Rows L2
theorem rows_shaped (rs : List (List Int)) : SeqAt.shaped (.list (rs.map rowD)) = true := by
  have a1 : ∀ l : List Int, PyData.canLayAll0 (l.map PyData.int) = true := by
    intro l
    induction l with
    | nil => simp [PyData.canLayAll0]
    | cons a l ih => simp [PyData.canLayAll0, PyData.canLay0, ih]
  have a2 : ∀ l : List Int, PyData.depthAll (l.map PyData.int) = 0 := by
    intro l
    induction l with
    | nil => simp [PyData.depthAll]
    | cons a l ih => simp [PyData.depthAll, PyData.depth, ih]
  have h1 : ∀ l : List (List Int), PyData.canLayAll0 (l.map rowD) = true := by
    intro l
    induction l with
    | nil => simp [PyData.canLayAll0]
    | cons a l ih => simp [PyData.canLayAll0, rowD, PyData.canLay0, a1, ih]
  have h2 : ∀ l : List (List Int), PyData.depthAll (l.map rowD) ≤ 1 := by
    intro l
    induction l with
    | nil => simp [PyData.depthAll]
    | cons a l ih =>
      simp only [List.map_cons, PyData.depthAll, rowD, PyData.depth, a2]
      omega
  have h3 := h2 rs
  show (PyData.canLay0 (.list (rs.map rowD)) && decide (PyData.depth (.list (rs.map rowD)) ≤ 64)) = true
  rw [Bool.and_eq_true]
  refine ⟨?_, decide_eq_true ?_⟩
  · simp only [PyData.canLay0]
    exact h1 rs
  · simp only [PyData.depth]
    omega
theorem rows_nil (rs : List (List Int)) : PyData.eqv (.list (rs.map rowD)) (.list []) = decide (rs = []) := by
  cases rs <;> simp [PyData.eqv, PyData.eqvAll]
end Gd
namespace Gd
open PySem PySem.Spec PyProof.Rows L2
theorem Same.sb {l : Addr} {H H1 H2 : Hp} (e : Same H H1) (n : H l = none) (s : Sb l H1 H2) : Same H H2 :=
  fun b o h => s b o (ne_of_none h n) (e b o h)
section
variable {K : PySem.W.Frag} {te : TE} {vs : List Nat} {σ : L2.St} {H : Hp} {D : Addr} {Qd : Hp → Prop}
/-- [e for x in range(m)], e data of tuples that draws -/
theorem lcrD {j m n c : Nat} {a s : Addr} (Pz : PyData → Prop) (hD : H D = none) (hf : Fd H a s n) (hm : m ≤ 50000)
    (ht : ∀ d, Pz d → tupOnly d = true)
    (hw : ∀ x, wipe ((wipe σ vs).set j (some x)) vs = wipe σ vs)
    (hs : ∀ (i : Nat) (H1 : Hp) (Q : VK), i < m → Sb a H H1 → Fd H1 a s (n + c * i) →
      (∀ (z : V) (d : PyData) (H2 : Hp), Sb a H1 H2 → Fd H2 a s (n + c * (i + 1)) → Pz d → Dp K H2 z d → Q z H2) →
      te ((wipe σ vs).set j (some (.int (0 + (i : Int))))) H1 Q)
    (hd : ∀ (H' : Hp) (ys : List V) (ds : List PyData), Sb a H H' → Fd H' a s (n + c * m) → H' D = some (.lst ys) →
      DpAll K H' ys ds → ds.length = m → (∀ x ∈ ds, Pz x) → Qd H') :
    ∃ W : Nat → Nat → Hp → Prop, (∃ m, W 0 m (upd H D (.lst []))) ∧ ∀ i k H, W i k H →
      ((Itr 0 m).stop i H ∧ Qd H) ∨ ((Itr 0 m).go i H ∧ ∃ Nx : Hp → Prop,
        (∀ H', Nx H' → ∃ k', k' < k ∧ W (i + 1) k' H') ∧
        ∀ x H', (Itr 0 m).yld i H x H' → gName j x (wipe σ vs) H' fun σ2 H2 =>
          wipe σ2 vs = wipe σ vs ∧ tYes σ2 H2 fun b H3 =>
            if b = true then te σ2 H3 fun y H4 => ∃ acc, H4 D = some (.lst acc) ∧
              acc.length < sizeLine ∧ Nx (upd H4 D (.lst (acc ++ [y]))) else Nx H3) := by
  obtain ⟨dA, dS⟩ := hf.apart hD
  refine lc_range (lo := 0) (n := m) (fun i H' => Sb a H H' ∧ Fd H' a s (n + c * i) ∧ ∃ (ys : List V) (ds : List PyData),
    H' D = some (.lst ys) ∧ DpAll K H' ys ds ∧ ds.length = i ∧ ∀ x ∈ ds, Pz x) ?_ ?_ ?_
  · exact ⟨Sb.new hD, (hf.upd dA dS).mono (by omega), [], [], upd_same, .nil, rfl, fun x h => by cases h⟩
  · rintro i H' hi ⟨sb, f, ys, ds, h1, h2, h3, h4⟩
    refine ⟨hw _, ?_⟩
    unfold tYes
    dsimp only
    rw [if_pos rfl]
    refine hs i H' _ hi sb f ?_
    intro z d H2 sb2 f2 pz hz
    have h1' := sb2 _ _ dA h1
    have tall : tupAll ds = true := (tupAll_iff ds).mpr fun x hx => ht x (h4 x hx)
    have hl : ys.length = i := by rw [dpa_len _ _ h2, h3]
    have tk := Tk.lst (o := .lst (ys ++ [z])) h1'
    refine ⟨_, h1', ?_, (Sb.trans sb sb2).mut hD, f2.upd dA dS, ys ++ [z], ds ++ [d], upd_same, ?_, ?_, ?_⟩
    · rw [hl]
      exact Nat.lt_of_lt_of_le (show i < 50000 by omega) (by decide)
    · exact dpa_snoc _ _ _ _ (DpAll.tk tk _ _ tall (DpAll.tk (f.tk sb2) _ _ tall h2)) (Dp.tk tk _ _ (ht d pz) hz)
    · rw [List.length_append, h3]
      rfl
    · intro x hx
      rcases List.mem_append.mp hx with h | h
      · exact h4 x h
      · rw [List.mem_singleton.mp h]
        exact pz
  · rintro H' ⟨sb, f, ys, ds, h1, h2, h3, h4⟩
    exact hd H' ys ds sb f h1 h2 h3 h4
end
end Gd
namespace Gd
open PySem PySem.Spec PyProof.Rows L2
/-! ### tables whose repr is known -/
def Rr (r : List Int) : Prop := r.length ≤ 8 ∧ ∀ x ∈ r, x.natAbs < 2 ^ 1900
def Rk (rs : List (List Int)) : Prop := rs.length ≤ 8 ∧ ∀ r ∈ rs, Rr r
theorem sh_row {r : List Int} (h : Rr r) : Sh 1 16000 (rowD r) := by
  refine (Sh.tup (k := 0) (n := 1901) (m := 8) ?_ (by rw [List.length_map]; exact h.1)).mono (by decide) (by decide)
  intro d hd
  obtain ⟨x, hx, rfl⟩ := List.mem_map.mp hd
  exact Sh.int (h.2 x hx)
theorem sh_rows {rs : List (List Int)} (h : Rk rs) : Sh 2 130000 (rowsD rs) := by
  refine (Sh.tup (k := 1) (n := 16000) (m := 8) ?_ (by rw [List.length_map]; exact h.1)).mono (by decide) (by decide)
  intro d hd
  obtain ⟨x, hx, rfl⟩ := List.mem_map.mp hd
  exact sh_row (h.2 x hx)
theorem sh_tab {w : Int} {rs : List (List Int)} (hw : w.natAbs < 2 ^ 1900) (h : Rk rs) : Sh 3 270000 (tabD w rs) := by
  refine (Sh.tup (k := 2) (n := 130000) (m := 2) ?_ (by simp)).mono (by decide) (by decide)
  intro d hd
  simp only [List.mem_cons, List.not_mem_nil, or_false] at hd
  rcases hd with rfl | rfl
  · exact (Sh.int hw).mono (by decide) (by decide)
  · exact sh_rows h
theorem nat_1900 {n : Nat} (h : n ≤ 1000000) : ((n : Int)).natAbs < 2 ^ 1900 :=
  Nat.lt_of_le_of_lt (by omega : _ ≤ 1000000) (Nat.lt_of_lt_of_le (by decide : 1000000 < 2 ^ 20) (Nat.pow_le_pow_right (by decide) (by decide)))
theorem int_1900 {x : Int} (h : -(10 ^ 30) ≤ x ∧ x ≤ 10 ^ 30) : x.natAbs < 2 ^ 1900 :=
  Nat.lt_of_le_of_lt (by omega : _ ≤ 10 ^ 30) (Nat.lt_of_lt_of_le (by decide : 10 ^ 30 < 2 ^ 100) (Nat.pow_le_pow_right (by decide) (by decide)))
/-- numbers from -b to b -/
def Bd (b : Int) (r : List Int) : Prop := ∀ x ∈ r, -b ≤ x ∧ x ≤ b
def Bs (b : Int) (rs : List (List Int)) : Prop := ∀ r ∈ rs, Bd b r
theorem Bd.at {b : Int} {r : List Int} (h : Bd b r) (hb : 0 ≤ b) (i : Nat) : -b ≤ r.getD i 0 ∧ r.getD i 0 ≤ b := by
  by_cases hi : i < r.length
  · exact h _ (getD_mem hi)
  · rw [List.getD_eq_getElem?_getD, List.getElem?_eq_none (by omega)]
    show -b ≤ 0 ∧ 0 ≤ b
    omega
theorem Bs.at {b : Int} {rs : List (List Int)} (h : Bs b rs) (hb : 0 ≤ b) (i k : Nat) : -b ≤ ent rs i k ∧ ent rs i k ≤ b := by
  unfold ent
  by_cases hi : i < rs.length
  · exact (h _ (getD_mem hi)).at hb k
  · rw [List.getD_eq_getElem?_getD (l := rs), List.getElem?_eq_none (by omega)]
    show -b ≤ ([] : List Int).getD k 0 ∧ ([] : List Int).getD k 0 ≤ b
    rw [List.getD_nil]
    omega
theorem sum_bd {b : Int} : ∀ l : List Int, Bd b l → -(b * l.length) ≤ l.sum ∧ l.sum ≤ b * l.length
  | [], _ => by simp
  | x :: l, h => by
    have h1 := h x (List.mem_cons_self ..)
    have h2 := sum_bd l (fun y hy => h y (List.mem_cons_of_mem _ hy))
    rw [List.sum_cons, List.length_cons]
    have e : b * ((l.length + 1 : Nat) : Int) = b * (l.length : Int) + b := by
      rw [Int.natCast_succ, Int.mul_add, Int.mul_one]
    rw [e]
    omega
theorem mul_bd {a b x y : Int} (ha : 0 ≤ a) (hb : 0 ≤ b) (hx : -a ≤ x ∧ x ≤ a) (hy : -b ≤ y ∧ y ≤ b) :
    -(a * b) ≤ x * y ∧ x * y ≤ a * b := by
  have h1 : x.natAbs ≤ a.natAbs := by omega
  have h2 : y.natAbs ≤ b.natAbs := by omega
  have h3 : (x * y).natAbs ≤ (a * b).natAbs := by
    rw [Int.natAbs_mul, Int.natAbs_mul]
    exact Nat.mul_le_mul h1 h2
  have h4 : 0 ≤ a * b := Int.mul_nonneg ha hb
  omega
theorem mulRow_bd {a b : Int} {r : List Int} {w : Nat} {ts : List (List Int)} {m : Nat} (ha : 0 ≤ a) (hb : 0 ≤ b)
    (hr : Bd a r) (ht : Bs b ts) (hm : r.length ≤ m) : Bd (a * b * m) (mulRow r w ts) := by
  intro x hx
  obtain ⟨k, hk, rfl⟩ := List.mem_map.mp hx
  have h0 : 0 ≤ a * b := Int.mul_nonneg ha hb
  have h := sum_bd (b := a * b) ((List.range r.length).map fun i => r.getD i 0 * ent ts i k) (by
    intro y hy
    obtain ⟨i, hi, rfl⟩ := List.mem_map.mp hy
    exact mul_bd ha hb (hr.at ha i) (ht.at hb i k))
  rw [List.length_map, List.length_range] at h
  have h2 : a * b * (r.length : Int) ≤ a * b * (m : Int) := Int.mul_le_mul_of_nonneg_left (by omega) h0
  omega
theorem mulRow_len {r : List Int} {w : Nat} {ts : List (List Int)} : (mulRow r w ts).length = w := by
  unfold mulRow
  rw [List.length_map, List.length_range]
theorem OkT.bs {m wd : Nat} {rs : List (List Int)} (h : OkT m wd rs) : Bs 99 rs := fun r hr x hx => (h.2 r hr).2 x hx
theorem rr_bd {r : List Int} (hl : r.length ≤ 8) (h : Bd 1000000 r) : Rr r :=
  ⟨hl, fun x hx => int_1900 (by have := h x hx; omega)⟩
theorem Bd.mono {a b : Int} {r : List Int} (h : Bd a r) (e : a ≤ b) : Bd b r := fun x hx => by
  have := h x hx
  omega
theorem rk_ok {m wd : Nat} {rs : List (List Int)} (h : OkT m wd rs) (hm : m ≤ 8) (hw : wd ≤ 8) : Rk rs :=
  ⟨by rw [h.1]; exact hm, fun r hr => rr_bd (by rw [(h.2 r hr).1]; exact hw) (Bd.mono (h.bs r hr) (by decide))⟩
theorem rk_unit {n : Nat} (h : n ≤ 8) : Rk (unitR n) := by
  refine ⟨by simp [unitR, h], fun r hr => ?_⟩
  obtain ⟨k, hk, rfl⟩ := List.mem_map.mp hr
  refine rr_bd (by simp [unitRow, h]) ?_
  intro x hx
  obtain ⟨c, hc, rfl⟩ := List.mem_map.mp hx
  split <;> decide
end Gd
namespace Gd
open PySem PySem.Spec PyProof.Rows L2
/-! ### sums over places, products of tables -/
def sumR (n : Nat) (f : Nat → Int) : Int := ((List.range n).map f).sum
theorem sumR_zero (f : Nat → Int) : sumR 0 f = 0 := rfl
theorem sumR_succ (n : Nat) (f : Nat → Int) : sumR (n + 1) f = sumR n f + f n := by
  unfold sumR
  rw [List.range_succ, List.map_append, List.sum_append]
  simp
theorem sumR_congr {n : Nat} {f g : Nat → Int} (h : ∀ i, i < n → f i = g i) : sumR n f = sumR n g := by
  unfold sumR
  congr 1
  refine List.map_congr_left ?_
  intro i hi
  exact h i (List.mem_range.mp hi)
theorem sumR_add (n : Nat) (f g : Nat → Int) : sumR n (fun i => f i + g i) = sumR n f + sumR n g := by
  induction n with
  | zero => rfl
  | succ n ih => rw [sumR_succ, sumR_succ, sumR_succ, ih]; omega
theorem sumR_mulr (n : Nat) (f : Nat → Int) (c : Int) : sumR n (fun i => f i * c) = sumR n f * c := by
  induction n with
  | zero => rw [sumR_zero, sumR_zero, Int.zero_mul]
  | succ n ih => rw [sumR_succ, sumR_succ, ih, Int.add_mul]
theorem sumR_mull (n : Nat) (f : Nat → Int) (c : Int) : sumR n (fun i => c * f i) = c * sumR n f := by
  induction n with
  | zero => rw [sumR_zero, sumR_zero, Int.mul_zero]
  | succ n ih => rw [sumR_succ, sumR_succ, ih, Int.mul_add]
theorem sumR_nought (n : Nat) : sumR n (fun _ => 0) = 0 := by
  induction n with
  | zero => rfl
  | succ n ih => rw [sumR_succ, ih]; rfl
theorem sumR_comm (n m : Nat) (f : Nat → Nat → Int) :
    sumR n (fun i => sumR m (fun j => f i j)) = sumR m (fun j => sumR n (fun i => f i j)) := by
  induction n with
  | zero =>
    rw [sumR_zero]
    exact (sumR_nought m).symm
  | succ n ih =>
    rw [sumR_succ, ih, ← sumR_add]
    exact sumR_congr fun j _ => (sumR_succ n fun i => f i j).symm
theorem sumR_one {n k : Nat} (hk : k < n) (f : Nat → Int) (h : ∀ i, i < n → i ≠ k → f i = 0) : sumR n f = f k := by
  induction n with
  | zero => omega
  | succ n ih =>
    rw [sumR_succ]
    by_cases e : k = n
    · subst e
      rw [sumR_congr (g := fun _ => 0) (fun i hi => h i (by omega) (by omega)), sumR_nought]
      omega
    · rw [ih (by omega) (fun i hi ne => h i (by omega) ne), h n (by omega) (by omega)]
      omega
theorem getD_range {α : Type} {n i : Nat} {g : Nat → α} {d : α} (h : i < n) : ((List.range n).map g).getD i d = g i := by
  rw [List.getD_eq_getElem?_getD, List.getElem?_map, List.getElem?_range h]
  rfl
theorem range_getD {α β : Type} (l : List α) (d : α) (f : α → β) : (List.range l.length).map (fun i => f (l.getD i d)) = l.map f := by
  apply List.ext_getElem
  · simp
  · intro i h1 h2
    have hi : i < l.length := by simpa using h2
    simp only [List.getElem_map, List.getElem_range]
    rw [List.getD_eq_getElem?_getD, List.getElem?_eq_getElem hi]
    rfl
theorem mulRow_eq (r : List Int) (w : Nat) (rs : List (List Int)) :
    mulRow r w rs = (List.range w).map fun k => sumR r.length fun i => r.getD i 0 * ent rs i k := rfl
theorem mulR_eq (rs : List (List Int)) (w : Nat) (ts : List (List Int)) : mulR rs w ts = rs.map fun r => mulRow r w ts :=
  range_getD rs [] fun r => mulRow r w ts
theorem turnR_eq (w : Nat) (rs : List (List Int)) : turnR w rs = (List.range w).map fun k => rs.map fun r => r.getD k 0 := by
  unfold turnR ent
  refine List.map_congr_left ?_
  intro k _
  exact range_getD rs [] fun r => r.getD k 0
theorem mulR_len {rs : List (List Int)} {w : Nat} {ts : List (List Int)} : (mulR rs w ts).length = rs.length := by
  rw [mulR_eq, List.length_map]
theorem mulR_at {rs : List (List Int)} {w : Nat} {ts : List (List Int)} {i : Nat} (h : i < rs.length) :
    (mulR rs w ts).getD i [] = mulRow (rs.getD i []) w ts := by
  unfold mulR
  rw [getD_range h]
theorem mulRow_at {r : List Int} {w : Nat} {ts : List (List Int)} {k : Nat} (h : k < w) :
    (mulRow r w ts).getD k 0 = sumR r.length fun i => r.getD i 0 * ent ts i k := by
  rw [mulRow_eq, getD_range h]
theorem ent_mul {rs : List (List Int)} {w : Nat} {ts : List (List Int)} {i k : Nat} (hi : i < rs.length) (hk : k < w) :
    ent (mulR rs w ts) i k = sumR (rs.getD i []).length fun j => ent rs i j * ent ts j k := by
  unfold ent
  rw [mulR_at hi, mulRow_at hk]
  rfl
theorem ent_turn {w : Nat} {rs : List (List Int)} {i k : Nat} (hk : k < w) (hi : i < rs.length) : ent (turnR w rs) k i = ent rs i k := by
  have h : (turnR w rs).getD k [] = (List.range rs.length).map fun i => ent rs i k := by
    unfold turnR
    rw [getD_range hk]
  unfold ent at h ⊢
  rw [h, getD_range hi]
theorem ent_unit {n i k : Nat} (hi : i < n) (hk : k < n) : ent (unitR n) i k = if k = i then 1 else 0 := by
  unfold ent unitR
  rw [getD_range hi]
  unfold unitRow
  rw [getD_range hk]
theorem row_assoc {r : List Int} {w w' : Nat} {bs cs : List (List Int)} (hr : r.length = bs.length) (hb : Tb w bs) (hw : w = cs.length) :
    mulRow (mulRow r w bs) w' cs = mulRow r w' (mulR bs w' cs) := by
  show (List.range w').map (fun k => sumR (mulRow r w bs).length (fun j => (mulRow r w bs).getD j 0 * ent cs j k)) =
    (List.range w').map (fun k => sumR r.length (fun i => r.getD i 0 * ent (mulR bs w' cs) i k))
  refine List.map_congr_left ?_
  intro k hk
  have hk := List.mem_range.mp hk
  rw [mulRow_len]
  have e1 : sumR w (fun j => (mulRow r w bs).getD j 0 * ent cs j k) =
      sumR w (fun j => sumR r.length (fun i => r.getD i 0 * ent bs i j * ent cs j k)) := by
    refine sumR_congr fun j hj => ?_
    rw [mulRow_at hj, ← sumR_mulr]
  have e2 : sumR r.length (fun i => r.getD i 0 * ent (mulR bs w' cs) i k) =
      sumR r.length (fun i => sumR w (fun j => r.getD i 0 * ent bs i j * ent cs j k)) := by
    refine sumR_congr fun i hi => ?_
    rw [ent_mul (by omega) hk, hb.len (by omega), ← sumR_mull]
    exact sumR_congr fun j _ => (Int.mul_assoc _ _ _).symm
  rw [e1, e2, sumR_comm]
theorem mul_assoc {as bs cs : List (List Int)} {v w w' : Nat} (ha : Tb v as) (hv : v = bs.length) (hb : Tb w bs) (hw : w = cs.length) :
    mulR (mulR as w bs) w' cs = mulR as w' (mulR bs w' cs) := by
  rw [mulR_eq (mulR as w bs), mulR_eq as, mulR_eq as, List.map_map]
  refine List.map_congr_left ?_
  intro r hr
  exact row_assoc (by rw [ha.2.2 r hr, hv]) hb hw
theorem row_id (r : List Int) : (List.range r.length).map (fun k => r.getD k 0) = r := by
  have := range_getD r 0 id
  simpa using this
theorem rows_id (rs : List (List Int)) : (List.range rs.length).map (fun k => rs.getD k []) = rs := by
  have := range_getD rs [] id
  simpa using this
theorem unit_mul {rs : List (List Int)} {w : Nat} (h : Tb w rs) : mulR (unitR rs.length) w rs = rs := by
  conv => rhs; rw [← rows_id rs]
  rw [mulR_eq]
  unfold unitR
  rw [List.map_map]
  refine List.map_congr_left ?_
  intro i hi
  have hi := List.mem_range.mp hi
  show mulRow (unitRow rs.length i) w rs = rs.getD i []
  conv => rhs; rw [← row_id (rs.getD i [])]
  rw [h.len hi, mulRow_eq]
  refine List.map_congr_left ?_
  intro k hk
  have hl : (unitRow rs.length i).length = rs.length := by simp [unitRow]
  rw [hl, sumR_one hi]
  · unfold unitRow
    rw [getD_range hi, if_pos rfl, Int.one_mul]
    rfl
  · intro j hj ne
    unfold unitRow
    rw [getD_range hj, if_neg ne, Int.zero_mul]
theorem mul_unit {rs : List (List Int)} {w : Nat} (h : Tb w rs) : mulR rs w (unitR w) = rs := by
  conv => rhs; rw [← List.map_id rs]
  rw [mulR_eq]
  refine List.map_congr_left ?_
  intro r hr
  show mulRow r w (unitR w) = r
  have hl := h.2.2 r hr
  conv => rhs; rw [← row_id r]
  rw [hl, mulRow_eq]
  refine List.map_congr_left ?_
  intro k hk
  have hk := List.mem_range.mp hk
  rw [hl, sumR_one hk]
  · rw [ent_unit hk hk, if_pos rfl, Int.mul_one]
  · intro j hj ne
    rw [ent_unit hj hk, if_neg (fun z => ne z.symm), Int.mul_zero]
theorem turn_mul {as bs : List (List Int)} {v w : Nat} (ha : Tb v as) (hv : v = bs.length) :
    turnR w (mulR as w bs) = mulR (turnR w bs) as.length (turnR v as) := by
  have hl : (turnR w bs).length = w := by simp [turnR]
  have e : mulR (turnR w bs) as.length (turnR v as) = (List.range w).map fun k => mulRow ((turnR w bs).getD k []) as.length (turnR v as) := by
    unfold mulR
    rw [hl]
  rw [e]
  unfold turnR
  refine List.map_congr_left ?_
  intro k hk
  have hk := List.mem_range.mp hk
  rw [mulR_len]
  have ek : ((List.range w).map fun k => (List.range bs.length).map fun i => ent bs i k).getD k [] = (List.range bs.length).map fun i => ent bs i k := getD_range hk
  rw [ek, mulRow_eq, List.length_map, List.length_range]
  refine List.map_congr_left ?_
  intro i hi
  have hi := List.mem_range.mp hi
  rw [ent_mul hi hk, ha.len hi, hv]
  refine sumR_congr fun j hj => ?_
  rw [getD_range hj]
  have et : ent ((List.range v).map fun k => (List.range as.length).map fun i => ent as i k) j i = ent as i j := ent_turn (w := v) (by omega) hi
  rw [← hv, et, Int.mul_comm]
theorem stack_mul {as ms bs : List (List Int)} {w : Nat} : mulR (as ++ ms) w bs = mulR as w bs ++ mulR ms w bs := by
  rw [mulR_eq, mulR_eq, mulR_eq, List.map_append]
theorem turn_stack {as ms : List (List Int)} {w : Nat} :
    turnR w (as ++ ms) = (List.range w).map fun k => (turnR w as).getD k [] ++ (turnR w ms).getD k [] := by
  rw [turnR_eq]
  refine List.map_congr_left ?_
  intro k hk
  have hk := List.mem_range.mp hk
  rw [turnR_eq, turnR_eq, getD_range hk, getD_range hk, List.map_append]
theorem mul_tb {as bs : List (List Int)} {v w : Nat} (ha : as.length ≤ 1000) (hw : w ≤ 1000) : Tb w (mulR as w bs) :=
  ⟨by rw [mulR_len]; exact ha, hw, fun r hr => by
    rw [mulR_eq] at hr
    obtain ⟨x, _, rfl⟩ := List.mem_map.mp hr
    exact mulRow_len⟩
theorem turn_tb {rs : List (List Int)} {w : Nat} (hr : rs.length ≤ 1000) (hw : w ≤ 1000) : Tb rs.length (turnR w rs) := by
  refine ⟨by simp [turnR]; exact hw, hr, fun r h => ?_⟩
  obtain ⟨x, _, rfl⟩ := List.mem_map.mp h
  simp
theorem turn_len {rs : List (List Int)} {w : Nat} : (turnR w rs).length = w := by simp [turnR]
theorem unit_tb {n : Nat} (h : n ≤ 1000) : Tb n (unitR n) := by
  refine ⟨by simp [unitR]; exact h, h, fun r hr => ?_⟩
  obtain ⟨x, _, rfl⟩ := List.mem_map.mp hr
  simp [unitRow]
theorem bs_mul {a b : Int} {as bs : List (List Int)} {v w m : Nat} (h0 : 0 ≤ a) (h1 : 0 ≤ b) (ha : Bs a as) (hv : ∀ r ∈ as, r.length ≤ m) (hb : Bs b bs) :
    Bs (a * b * m) (mulR as w bs) := by
  intro r hr
  rw [mulR_eq] at hr
  obtain ⟨x, hx, rfl⟩ := List.mem_map.mp hr
  exact mulRow_bd h0 h1 (ha x hx) hb (hv x hx)
theorem bs_turn {a : Int} {rs : List (List Int)} {w : Nat} (h0 : 0 ≤ a) (ha : Bs a rs) : Bs a (turnR w rs) := by
  intro r hr
  obtain ⟨k, _, rfl⟩ := List.mem_map.mp hr
  intro x hx
  obtain ⟨i, _, rfl⟩ := List.mem_map.mp hx
  exact ha.at h0 i k
theorem bs_unit {n : Nat} : Bs 1 (unitR n) := by
  intro r hr
  obtain ⟨k, _, rfl⟩ := List.mem_map.mp hr
  intro x hx
  obtain ⟨c, _, rfl⟩ := List.mem_map.mp hx
  show -1 ≤ (if c = k then (1 : Int) else 0) ∧ (if c = k then (1 : Int) else 0) ≤ 1
  split <;> decide
theorem bs_sm {a : Int} {rs : List (List Int)} (h : Bs a rs) (ha : a < 2 ^ 64) : ∀ r ∈ rs, Sm r := fun r hr x hx => by
  have := h r hr x hx
  omega
/-! ### == of tables -/
mutual
theorem eqv_self : ∀ d : PyData, tupOnly d = true → PyData.eqv d d = true
  | .none, _ => by simp [PyData.eqv]
  | .bool b, _ => by simp [PyData.eqv]
  | .int i, _ => by simp [PyData.eqv]
  | .str x, _ => by simp [PyData.eqv]
  | .tuple ds, h => by
    simp only [PyData.eqv]
    exact eqvAll_self ds (by simpa [tupOnly] using h)
  | .list _, h => by simp [tupOnly] at h
  | .dict _, h => by simp [tupOnly] at h
theorem eqvAll_self : ∀ ds : List PyData, tupAll ds = true → PyData.eqvAll ds ds = true
  | [], _ => by simp [PyData.eqvAll]
  | d :: ds, h => by
    have h' : tupOnly d = true ∧ tupAll ds = true := by simpa [tupAll] using h
    simp only [PyData.eqvAll, eqv_self d h'.1, eqvAll_self ds h'.2, Bool.and_self]
end
/-- may be compared -/
def Shp (k : Nat) (d : PyData) : Prop := d.canLay0 = true ∧ d.depth ≤ k
theorem shp_int (i : Int) : Shp 0 (.int i) := ⟨by simp [PyData.canLay0], by simp [PyData.depth]⟩
theorem shp_all {k : Nat} : ∀ ds : List PyData, (∀ d ∈ ds, Shp k d) → PyData.canLayAll0 ds = true ∧ PyData.depthAll ds ≤ k
  | [], _ => ⟨by simp [PyData.canLayAll0], by simp [PyData.depthAll]⟩
  | d :: ds, h => by
    obtain ⟨a1, a2⟩ := h d (List.mem_cons_self ..)
    obtain ⟨b1, b2⟩ := shp_all ds (fun x hx => h x (List.mem_cons_of_mem _ hx))
    refine ⟨by simp [PyData.canLayAll0, a1, b1], ?_⟩
    simp only [PyData.depthAll]
    omega
theorem shp_tup {k : Nat} {ds : List PyData} (h : ∀ d ∈ ds, Shp k d) : Shp (k + 1) (.tuple ds) := by
  obtain ⟨h1, h2⟩ := shp_all ds h
  refine ⟨by simp [PyData.canLay0, h1], ?_⟩
  simp only [PyData.depth]
  omega
theorem Shp.mono {k m : Nat} {d : PyData} (h : Shp k d) (e : k ≤ m) : Shp m d := ⟨h.1, Nat.le_trans h.2 e⟩
theorem Shp.shaped {k : Nat} {d : PyData} (h : Shp k d) (hk : k ≤ 64) : SeqAt.shaped d = true := by
  show (d.canLay0 && decide (d.depth ≤ 64)) = true
  rw [Bool.and_eq_true]
  exact ⟨h.1, decide_eq_true (Nat.le_trans h.2 hk)⟩
theorem shp_row (r : List Int) : Shp 1 (rowD r) := shp_tup fun d hd => by
  obtain ⟨x, _, rfl⟩ := List.mem_map.mp hd
  exact shp_int x
theorem shp_rows (rs : List (List Int)) : Shp 2 (rowsD rs) := shp_tup fun d hd => by
  obtain ⟨x, _, rfl⟩ := List.mem_map.mp hd
  exact shp_row x
theorem shp_tab (w : Int) (rs : List (List Int)) : Shp 3 (tabD w rs) := shp_tup fun d hd => by
  simp only [List.mem_cons, List.not_mem_nil, or_false] at hd
  rcases hd with rfl | rfl
  · exact (shp_int w).mono (by decide)
  · exact shp_rows rs
theorem ne_dp {K : PySem.W.Frag} {H : Hp} {x y : V} {d : PyData} {k : Nat} {Q : VK} (hx : Dp K H x d) (hy : Dp K H y d)
    (hs : Shp k d) (hk : k ≤ 64) (ht : tupOnly d = true) (q : Q (.bl false) H) : rNeD K x y H Q := by
  refine ⟨d, d, hx, hy, hs.shaped hk, hs.shaped hk, ?_⟩
  rw [eqv_self d ht]
  exact q
theorem eq_dp {K : PySem.W.Frag} {H : Hp} {x y : V} {d : PyData} {k : Nat} {Q : VK} (hx : Dp K H x d) (hy : Dp K H y d)
    (hs : Shp k d) (hk : k ≤ 64) (ht : tupOnly d = true) (q : Q (.bl true) H) : rEqD K x y H Q := by
  refine ⟨d, d, hx, hy, hs.shaped hk, hs.shaped hk, ?_⟩
  rw [eqv_self d ht]
  exact q
end Gd
namespace Gd
open PySem PySem.Spec PyProof.Rows L2
open PySem.AutoSeq1 (wpAny_loadPart')
/-! ### enumerate(t), t a tuple -/
theorem enum_new_tup (l : Addr) (items : Array Value) (n : Nat) (dct : Option Addr)
    (sl : Array (Option Value)) :
    Meets (Builtin.«enumerate.__new__» ⟨[.type "enumerate", .ref l], []⟩) (fun _ R s =>
      s.heap.get? l = some { cls := .type "tuple", dict := dct, data := .seq items n, slots := sl } ∧
      R (.ok (.ret (.ref (s.heap.push { cls := .type "tuple_iterator", data := .fields #[.ref l, .int 0 0] }).objs.size)))
        { s with heap := ((s.heap.push { cls := .type "tuple_iterator", data := .fields #[.ref l, .int 0 0] }).push ({ cls := .type "enumerate", data := .fields #[.none, .bool false, .ref s.heap.objs.size, rawInt 0, .none, .none] } : Obj)) }) :=
  .of_wp fun prog w A R s h => by
    obtain ⟨hp, g, d, tk, os⟩ := s
    obtain ⟨hl, h⟩ := h
    have hsub := sub_enumerate
    have hL : Heap.IsTuple (Shared.heap ⟨hp, g, d, tk, os⟩) l items := ⟨_, hl, rfl, n, rfl⟩
    wp_walk using wpAny_loadPart' hl
    refine wpAny_stack_any fun st => wpAny_pure ?_
    split
    · rename_i c _ _ _ _ _
      cases (c == Value.type "enumerate") <;> (wp_walk using wpAny_loadPart' hl, wpAny_pyIter_tuple hL) <;> exact ⟨_, rfl, h⟩
    · wp_walk using wpAny_loadPart' hl, wpAny_pyIter_tuple hL
      exact ⟨_, rfl, h⟩
theorem call_enum_tup {prog : Program} {w : World} {A : Around} {E : Value → Shared → Prop} {s : Shared}
    {l : Addr} {items : Array Value} {Q : Value → Shared → Prop} (hL : s.heap.IsTuple l items)
    (h : ∀ h', IsEnum h' (s.heap.objs.size + 1) s.heap.objs.size 0 .none →
      h'.IsTupleIter s.heap.objs.size l 0 → h'.objs.size = s.heap.objs.size + 2 →
      (∀ b o, s.heap.get? b = some o → h'.get? b = some o) →
      Q (.ref (s.heap.objs.size + 1)) { s with heap := h' }) :
    wpAny (model prog w) A (call (.type "enumerate") [.ref l]) Q E s := by
  obtain ⟨⟨c, dct, dt, sl⟩, hl, hc, n, hd⟩ := hL
  simp only at hc hd
  subst hc hd
  refine callType_new F.called_enumerate (by decide) (F.typeCall_enumerate_1 _) (F.newCall_enumerate_1 _)
    (fun obj => F.args_object_init_2 obj _) F.entry_enumerate_new (enum_new_tup l items n dct sl) ⟨hl, ?_⟩
  have hz := Heap.size_push s.heap { cls := .type "tuple_iterator", data := .fields #[.ref l, .int 0 0] }
  have he := Heap.get?_push_size (s.heap.push { cls := .type "tuple_iterator", data := .fields #[.ref l, .int 0 0] })
    (o := { cls := .type "enumerate", data := .fields #[.none, .bool false, .ref s.heap.objs.size, rawInt 0, .none, .none] }) rfl
  show _ ∧ _
  rw [hz] at he ⊢
  refine ⟨⟨_, he, rfl⟩, h _ he ⟨_, Heap.get?_push_of_some _ (Heap.get?_push_size _ rfl), rfl, rfl⟩
    (by rw [Heap.size_push, hz]) ?_⟩
  intro b o x
  exact Heap.get?_push_of_some _ (Heap.get?_push_of_some _ x)
/-- the tuple at a, each item in a new pair with its place -/
def ItE (K : PySem.W.Frag) (a : Addr) : It :=
  ⟨fun i H => ∃ (xs : List V) (x : V), SqT K H a xs ∧ xs[i]? = some x,
    fun i H v H' => ∃ T x, v = .ref T ∧ H T = none ∧ H' = upd H T (.tup [.int (i : Nat), x]) ∧
      ∀ xs, SqT K H a xs → xs[i]? = some x,
    fun i H => ∃ xs : List V, SqT K H a xs ∧ xs.length = i⟩
theorem turn_enumT {P : Program} {w : World} {K : PySem.W.Frag} {elts : List Expr} {kk : Nat}
    {tpos : Pos} (a e it : Addr) :
    Turn P w K (.Tuple elts kk tpos) (ItE K a) [e, it] e (fun i h =>
      (∃ old, IsEnum h e it ((i : Nat) : Int) old) ∧ h.IsTupleIter it a i ∧ e ≠ it ∧ e ≠ a ∧ a ≠ it) where
  mem := List.mem_cons_self ..
  obj := by
    rintro i h ⟨⟨old, he⟩, ⟨o, ho, hc, hd⟩, _⟩ b hb
    rcases List.mem_cons.mp hb with z | z
    · rw [z]
      exact ⟨_, he, fun v q => nomatch q⟩
    · rw [List.mem_singleton.mp z]
      exact ⟨o, ho, fun v q => by rw [hd] at q; cases q⟩
  keep := by
    rintro i h h' ⟨⟨old, he⟩, hi, r⟩ k
    exact ⟨⟨old, k e (by simp) _ he⟩, hi.at (fun o q => k it (by simp) o q), r⟩
  item := by
    intro X hP hw hK hc i pins s σ H E I hf st hg
    subst hP hw hK
    obtain ⟨⟨old, he⟩, hit, hne, hea, hai⟩ := st
    obtain ⟨xs, x, hq, hx⟩ := hg
    obtain ⟨its, rv, p, hz⟩ := I.tuple hq
    obtain ⟨u, hu, ru⟩ := rv.get hx
    have hel : e < s.heap.objs.size := Heap.lt_size he
    have hil : it < s.heap.objs.size := by
      obtain ⟨_, q, _⟩ := hit
      exact Heap.lt_size q
    have hlt : i < its.toArray.size := by
      have := (List.getElem?_eq_some_iff.mp hu).1
      simpa using this
    have hef : e ∉ [it, a] := by simp [hne, hea]
    refine wpAny_pyNext_enum_itemC (Draws.tuple (A := X.A.in1) (I.ok.hd hc) it a hai its.toArray) he ⟨hit, p⟩ hlt hne hef ?_
    intro y h' tk hy ho hst hT hsz hk
    have ey : y = u := by
      have h1 : its[i]? = some y := by simpa using hy
      rw [hu] at h1
      exact (Option.some.inj h1).symm
    subst ey
    refine ⟨_, rfl, wpAny_letOwnedTupleGo_enum (s := { s with heap := h', toks := tk + 1 }) ho fun h'' he' sb => ?_⟩
    have hT2 : h''.get? s.heap.objs.size = some { cls := .type "tuple", data := .seq #[.int i tk, y] } :=
      (sb.2 _ (Nat.ne_of_gt hel)).trans hT
    have new : ObjOk X.prog X.w (upd H s.heap.objs.size (.tup [.int (i : Nat), x])) h'' s.heap.objs.size (.tup [.int (i : Nat), x]) :=
      ⟨by show 2 ≤ sizeLine; decide, [.int i tk, y], .cons ⟨_, rfl⟩ (.cons ru .nil), ⟨_, hT2, rfl, _, rfl⟩⟩
    have I1 : Inv X pins σ (upd H s.heap.objs.size (.tup [.int (i : Nat), x])) { s with heap := h'', toks := tk + 1 } := by
      refine I.turnedNew (ch := [e, it]) ?_ hf (Nat.le_refl _) new
      intro b ob hb q
      have b1 : b ≠ e := fun z => hb (by simp [z])
      have b2 : b ≠ it := fun z => hb (by simp [z])
      exact (sb.2 b b1).trans (hk b ob b1 b2 q)
    refine ⟨.ref s.heap.objs.size, _, I1, rfl, ⟨_, x, rfl, I.hok.fresh (Nat.le_refl _), rfl, ?_⟩, ⟨⟨y, ?_⟩, ?_, hne, hea, hai⟩, ?_⟩
    · intro ys hys
      rw [I.tuple_inj hys hq]
      exact hx
    · rw [show ((i + 1 : Nat) : Int) = (i : Int) + 1 from by omega]
      exact he'
    · exact hst.1.at fun o q => (sb.2 it (Ne.symm hne)).trans q
    · intro b hb
      have hb' : b < s.heap.objs.size := by
        rcases List.mem_cons.mp hb with z | z
        · rw [z]; exact hel
        · rw [List.mem_singleton.mp z]; exact hil
      rw [upd_ne (Nat.ne_of_lt hb')]
      exact (hf b hb).1
  done := by
    intro X hP hw hK hc i pins s σ H E I hf st hg
    subst hP hw hK
    obtain ⟨⟨old, he⟩, hit, hne, hea, hai⟩ := st
    obtain ⟨xs, hq, hx⟩ := hg
    obtain ⟨its, rv, p, hz⟩ := I.tuple hq
    obtain ⟨f0, f1, f2, f3, f4, f5⟩ := hf it (by simp)
    have hsz : i = its.toArray.size := by
      rw [List.size_toArray, ← rv.length, hx]
    refine wpAny_pyNext_enum_endD (Draws.tuple (A := X.A.in1) (I.ok.hd hc) it a hai its.toArray) he ⟨hsz ▸ hit, p⟩ ?_
    intro h' eb
    exact ⟨rfl, I.turned (t' := s.toks) (fun b o hb q => eb b o hb q) f0 f1 f3 f4 f5⟩
  self := fun A i s Q E st h => by
    obtain ⟨⟨_, he⟩, _⟩ := st
    exact wpAny_pyIter_enum he h
def iEnumT (K : PySem.W.Frag) (ta : TA) : TI := fun σ H R => ta σ H fun vs H1 =>
  ∃ a xs, vs = [.ref a] ∧ SqT K H1 a xs ∧ R (ItE K a) H1
theorem pi_enumK {X : Cx} {K : PySem.W.Frag} {e : Expr} {ta : TA} {p pos tpos : Pos} {elts : List Expr} {kk : Nat}
    (hK : X.K = K) (hg : Gl X "enumerate") (hm : X.mg "enumerate" = none) (ha : PA X [e] ta)
    (hs : starEach [e] X.env = [(false, eval e X.env)] := by rfl) :
    PI X (.Tuple elts kk tpos) (.Call (.Name "enumerate" p) [e] [] pos) (iEnumT K ta) := by
  subst hK
  constructor
  intro pins s σ H R I h
  refine Call_ (ld_blt I hg hm boot_enumerate (PyProof.Rows.callWith_type1 (thn (ha.run pos pins s σ H _ I h) ?_) hs rfl))
  rintro us s1 ⟨vs, H1, I1, r1, a, xs, rfl, hq, q⟩
  rw [Vals.ref1 r1]
  obtain ⟨its, rv, p', hz⟩ := I1.tuple hq
  have hal : a < s1.heap.objs.size := p'.lt
  refine call_enum_tup p' fun h' he hit hsz hk => wpAny_pyIter_enum he ?_
  have I2 : Inv X pins σ H1 { s1 with heap := h' } := I1.kept (t' := s1.toks) hk
  refine ⟨s1.heap.objs.size + 1, [s1.heap.objs.size + 1, s1.heap.objs.size], _, _, H1, rfl, I2,
    turn_enumT a (s1.heap.objs.size + 1) s1.heap.objs.size, ⟨⟨.none, he⟩, hit, Nat.succ_ne_self _, Nat.ne_of_gt (Nat.lt_succ_of_lt hal), Nat.ne_of_lt hal⟩, ?_, q⟩
  intro b hb
  have hle : s1.heap.objs.size ≤ b := by
    rcases List.mem_cons.mp hb with z | z
    · rw [z]; exact Nat.le_add_right _ _
    · rw [List.mem_singleton.mp z]; exact Nat.le_refl _
  exact I1.fpOk hle (I1.hok.fresh hle)
/-- for i, x in enumerate(t) -/
theorem for_enumT {K : PySem.W.Frag} {a : Addr} {xs : List V} {g : TG} {tb : TS} {D : Ends} {σ : L2.St} {H : Hp}
    (Pv : Nat → L2.St → Hp → Prop) (h0 : Pv 0 σ H) (hq : ∀ i σ H, Pv i σ H → SqT K H a xs)
    (hs : ∀ (i : Nat) (x : V) (T : Addr) (σ : L2.St) (H : Hp), xs[i]? = some x → Pv i σ H → H T = none →
      g (.ref T) σ (upd H T (.tup [.int (i : Nat), x])) fun σ2 H2 =>
        tb { D with nx := Pv (i + 1), ct := Pv (i + 1), bk := D.nx } σ2 H2)
    (hd : ∀ σ H, Pv xs.length σ H → D.nx σ H) :
    ∃ W : Nat → Nat → L2.St → Hp → Prop, (∃ m, W 0 m σ H) ∧ ∀ i m σ H, W i m σ H →
      ((ItE K a).stop i H ∧ D.nx σ H) ∨ ((ItE K a).go i H ∧ ∃ N : L2.St → Hp → Prop,
        (∀ σ' H', N σ' H' → ∃ m', m' < m ∧ W (i + 1) m' σ' H') ∧
        ∀ v H', (ItE K a).yld i H v H' → g v σ H' fun σ2 H2 =>
          tb { D with nx := N, ct := N, bk := D.nx } σ2 H2) := by
  refine ⟨fun i m σ H => m = xs.length - i ∧ i ≤ xs.length ∧ Pv i σ H, ⟨xs.length, rfl, Nat.zero_le _, h0⟩, ?_⟩
  rintro i m σ H ⟨rfl, hi, p⟩
  have qx := hq i σ H p
  by_cases hlt : i < xs.length
  · have hx : xs[i]? = some xs[i] := List.getElem?_eq_getElem hlt
    refine .inr ⟨⟨xs, _, qx, hx⟩, Pv (i + 1), fun σ' H' p' => ⟨xs.length - (i + 1), by omega, rfl, hlt, p'⟩, ?_⟩
    intro v H' y
    obtain ⟨T, x', rfl, hT, rfl, f1⟩ := y
    exact hs i x' T σ H (f1 xs qx) p hT
  · have e : i = xs.length := by omega
    subst e
    exact .inl ⟨⟨xs, qx, rfl⟩, hd σ H p⟩
end Gd
namespace Gd
open PySem PySem.Spec PyProof.Rows L2
theorem call_isiK {X : Cx} {K : PySem.W.Frag} (hK : X.K = K) : CallR X (.builtin "isinstance") (rIsi K) := by
  subst hK; exact call_isi
theorem sqt_ty {K : PySem.W.Frag} {H : Hp} {a : Addr} {xs : List V} (h : SqT K H a xs) : TyX K H (.ref a) (.type "tuple") := by
  rcases h with (h | ⟨o, h⟩) | h
  · exact .base (.tup h)
  · exact .fTuple h
  · obtain ⟨o, its, n, hk, hc, _⟩ := h
    exact .kTuple hk hc
/-! ### deeds -/
inductive Deed where
  | swap (i j : Nat) | turn (i : Nat) | add (i j : Nat) (k : Int)
def deedD : Deed → PyData
  | .swap i j => .tuple [.str "swap", .int i, .int j]
  | .turn i => .tuple [.str "turn", .int i]
  | .add i j k => .tuple [.str "add", .int i, .int j, .int k]
def OkD (m : Nat) (b : Int) : Deed → Prop
  | .swap i j => i < m ∧ j < m ∧ i ≠ j
  | .turn i => i < m
  | .add i j k => i < m ∧ j < m ∧ i ≠ j ∧ -b ≤ k ∧ k ≤ b
def deedsD (ds : List Deed) : PyData := .tuple (ds.map deedD)
theorem deedD_tup (d : Deed) : tupOnly (deedD d) = true := by cases d <;> simp [deedD, tupOnly, tupAll]
theorem deedsD_tup (ds : List Deed) : tupOnly (deedsD ds) = true := by
  simp only [deedsD, tupOnly, tupAll_iff]
  intro d hd
  obtain ⟨x, _, rfl⟩ := List.mem_map.mp hd
  exact deedD_tup x
def scaleR (r : List Int) (k : Int) : List Int := (List.range r.length).map fun c => k * r.getD c 0
def sumRow (r t : List Int) : List Int := (List.range r.length).map fun c => r.getD c 0 + t.getD c 0
def stepD (rs : List (List Int)) : Deed → List (List Int)
  | .swap i j => (rs.set i (rs.getD j [])).set j (rs.getD i [])
  | .turn i => rs.set i (scaleR (rs.getD i []) (-1))
  | .add i j k => rs.set i (sumRow (rs.getD i []) (scaleR (rs.getD j []) k))
theorem stepD_len (rs : List (List Int)) (d : Deed) : (stepD rs d).length = rs.length := by
  cases d <;> simp [stepD]
theorem mem_set {α : Type} {l : List α} {i : Nat} {x y : α} (h : y ∈ l.set i x) : y = x ∨ y ∈ l := by
  rcases List.mem_or_eq_of_mem_set h with h | h
  · exact Or.inr h
  · exact Or.inl h
theorem stepD_wide {rs : List (List Int)} {w : Nat} {d : Deed} {m : Nat} {b : Int} (h : ∀ r ∈ rs, r.length = w) (hm : rs.length = m) (hd : OkD m b d) :
    ∀ r ∈ stepD rs d, r.length = w := by
  intro r hr
  cases d with
  | swap i j =>
    obtain ⟨h1, h2, _⟩ := hd
    rcases mem_set hr with rfl | hr
    · exact h _ (getD_mem (by omega))
    · rcases mem_set hr with rfl | hr
      · exact h _ (getD_mem (by omega))
      · exact h r hr
  | turn i =>
    have h1 : i < m := hd
    rcases mem_set hr with rfl | hr
    · simp only [scaleR, List.length_map, List.length_range]
      exact h _ (getD_mem (by omega))
    · exact h r hr
  | add i j k =>
    obtain ⟨h1, h2, _⟩ := hd
    rcases mem_set hr with rfl | hr
    · simp only [sumRow, List.length_map, List.length_range]
      exact h _ (getD_mem (by omega))
    · exact h r hr
theorem dpa_set {K : PySem.W.Frag} {H : Hp} : ∀ (ds : List PyData) (xs : List V) (i : Nat) (v : V) (d : PyData),
    DpAll K H xs ds → Dp K H v d → DpAll K H (xs.set i v) (ds.set i d)
  | [], xs, i, v, d, h, e => by rw [dpa_nil h]; exact .nil
  | d0 :: ds, xs, i, v, d, h, e => by
    obtain ⟨x, vs, rfl, h1, h2⟩ := dpa_cons h
    cases i with
    | zero => exact .cons e h2
    | succ i => exact .cons h1 (dpa_set ds vs i v d h2 e)
theorem map_set {α β : Type} (f : α → β) (l : List α) (i : Nat) (x : α) : (l.set i x).map f = (l.map f).set i (f x) := List.map_set
/-- the greatest number grows by a deed -/
theorem stepD_bd {rs : List (List Int)} {d : Deed} {m : Nat} {b c : Int} (hb : 0 ≤ b) (hc : 1 ≤ c) (h : Bs b rs) (hm : rs.length = m) (hd : OkD m c d) :
    Bs (b * (c + 1)) (stepD rs d) := by
  have e : b * (c + 1) = b * c + b := by rw [Int.mul_add, Int.mul_one]
  have hbc : 0 ≤ b * c := Int.mul_nonneg hb (by omega)
  have hbb : b ≤ b * c := by
    have := Int.mul_le_mul_of_nonneg_left hc hb
    rw [Int.mul_one] at this
    exact this
  have up : ∀ r, Bd b r → Bd (b * (c + 1)) r := fun r hr x hx => by
    have := hr x hx
    rw [e]
    omega
  intro r hr
  cases d with
  | swap i j =>
    obtain ⟨h1, h2, _⟩ := hd
    rcases mem_set hr with rfl | hr
    · exact up _ (h _ (getD_mem (by omega)))
    · rcases mem_set hr with rfl | hr
      · exact up _ (h _ (getD_mem (by omega)))
      · exact up _ (h r hr)
  | turn i =>
    have h1 : i < m := hd
    rcases mem_set hr with rfl | hr
    · intro x hx
      obtain ⟨k, _, rfl⟩ := List.mem_map.mp hx
      have := (h _ (getD_mem (d := []) (show i < rs.length by omega))).at hb k
      rw [e]
      omega
    · exact up _ (h r hr)
  | add i j k =>
    obtain ⟨h1, h2, _, k1, k2⟩ := hd
    rcases mem_set hr with rfl | hr
    · intro x hx
      obtain ⟨n, hn, rfl⟩ := List.mem_map.mp hx
      have a1 := (h _ (getD_mem (d := []) (show i < rs.length by omega))).at hb n
      have a2 : -(b * c) ≤ (scaleR (rs.getD j []) k).getD n 0 ∧ (scaleR (rs.getD j []) k).getD n 0 ≤ b * c := by
        refine Bd.at ?_ hbc n
        intro y hy
        obtain ⟨q, _, rfl⟩ := List.mem_map.mp hy
        have a3 := (h _ (getD_mem (d := []) (show j < rs.length by omega))).at hb q
        have := mul_bd (by omega) hb ⟨k1, k2⟩ a3
        rw [Int.mul_comm c b] at this
        exact this
      rw [e]
      omega
    · exact up _ (h r hr)
end Gd
namespace Gd
open PySem PySem.Spec PyProof.Rows L2
theorem ixN_of {n i : Nat} (h : i < n) : ixN n (i : Int) = some i := by
  unfold ixN
  rw [if_pos (by omega), if_pos (by omega)]
  simp
end Gd
namespace Gd
open PySem PySem.Spec PyProof.Rows L2
/-- [e for x in l], l a list that stays -/
theorem lcl {K : PySem.W.Frag} {te : TE} {vs : List Nat} {σ : L2.St} {H : Hp} {D : Addr} {Qd : Hp → Prop} {j : Nat} {a : Addr} {xs : List V} (f : Nat → PyData) (hD : H D = none)
    (hx : SqL K H a xs) (hn : xs.length ≤ 50000)
    (ht : ∀ i, i < xs.length → tupOnly (f i) = true)
    (hw : ∀ x, wipe ((wipe σ vs).set j (some x)) vs = wipe σ vs)
    (hs : ∀ (i : Nat) (x : V) (H1 : Hp) (Q : VK), xs[i]? = some x → Same H H1 →
      (∀ y H2, Same H1 H2 → Dp K H2 y (f i) → Q y H2) →
      te ((wipe σ vs).set j (some x)) H1 Q)
    (hd : ∀ H' ys, Same H H' → H' D = some (.lst ys) → DpAll K H' ys ((List.range xs.length).map f) → Qd H') :
    ∃ W : Nat → Nat → Hp → Prop, (∃ m, W 0 m (upd H D (.lst []))) ∧ ∀ i m H, W i m H →
      ((Itl K a).stop i H ∧ Qd H) ∨ ((Itl K a).go i H ∧ ∃ Nx : Hp → Prop,
        (∀ H', Nx H' → ∃ m', m' < m ∧ W (i + 1) m' H') ∧
        ∀ x H', (Itl K a).yld i H x H' → gName j x (wipe σ vs) H' fun σ2 H2 =>
          wipe σ2 vs = wipe σ vs ∧ tYes σ2 H2 fun b H3 =>
            if b = true then te σ2 H3 fun y H4 => ∃ acc, H4 D = some (.lst acc) ∧
              acc.length < sizeLine ∧ Nx (upd H4 D (.lst (acc ++ [y]))) else Nx H3) := by
  refine lc_list (xs := xs) (Lw K H f D) (Lw.start hD) (fun i H' _ p => sql_same p.1 hx) ?_ ?_
  · intro i x H' hi p
    have hlt := (List.getElem?_eq_some_iff.mp hi).1
    refine ⟨hw _, ?_⟩
    unfold tYes
    dsimp only
    rw [if_pos rfl]
    exact hs i x H' _ hi p.1 fun y H2 e hy => Lw.turn hD (tupOnly_le ht hlt) p e hy (by omega)
  · rintro H' ⟨h0, ys, h1, h2⟩
    exact hd H' ys h0 h1 h2
/-! ### a list of lists of numbers, one's own -/
def NLp (H0 H : Hp) (D : Addr) (rs : List (List Int)) (ps : List Addr) : Prop :=
  H D = some (.lst (ps.map V.ref)) ∧ ps.length = rs.length ∧ D ∉ ps ∧ H0 D = none ∧ (∀ p ∈ ps, H0 p = none) ∧
  (∀ (i j : Nat) (p : Addr), ps[i]? = some p → ps[j]? = some p → i = j) ∧
  (∀ (i : Nat) (p : Addr), ps[i]? = some p → H p = some (.lst ((rs.getD i []).map V.int))) ∧ Same H0 H
def NL (H0 H : Hp) (D : Addr) (rs : List (List Int)) : Prop := ∃ ps, NLp H0 H D rs ps
theorem NL.start {H : Hp} {D : Addr} (h : H D = none) : NL H (upd H D (.lst [])) D [] :=
  ⟨[], upd_same, rfl, List.not_mem_nil, h, (fun p hp => nomatch hp), (fun i j p e => nomatch e), (fun i p e => nomatch e), Same.new h⟩
theorem NL.same {H0 H H' : Hp} {D : Addr} {rs : List (List Int)} (h : NL H0 H D rs) (e : Same H H') : NL H0 H' D rs := by
  obtain ⟨ps, a1, a2, a3, a4, a5, a6, a7, a8⟩ := h
  exact ⟨ps, e _ _ a1, a2, a3, a4, a5, a6, fun i p hp => e _ _ (a7 i p hp), a8.trans e⟩
theorem NL.base {H0 H : Hp} {D : Addr} {rs : List (List Int)} (h : NL H0 H D rs) : Same H0 H := by
  obtain ⟨ps, _, _, _, _, _, _, _, a8⟩ := h
  exact a8
/-- one more row behind -/
theorem NL.push {H0 H : Hp} {D l : Addr} {rs : List (List Int)} {r : List Int} (h : NL H0 H D rs) (nl : H l = none) :
    ∃ ps : List Addr, upd H l (.lst (r.map V.int)) D = some (.lst (ps.map V.ref)) ∧ ps.length = rs.length ∧
      NL H0 (upd (upd H l (.lst (r.map V.int))) D (.lst (ps.map V.ref ++ [.ref l]))) D (rs ++ [r]) := by
  obtain ⟨ps, a1, a2, a3, a4, a5, a6, a7, a8⟩ := h
  have hDl : D ≠ l := ne_of_none a1 nl
  have l0 : H0 l = none := a8.free nl
  have lps : ∀ (i : Nat) (p : Addr), ps[i]? = some p → p ≠ l := fun i p hp => ne_of_none (a7 i p hp) nl
  refine ⟨ps, by rw [upd_ne hDl]; exact a1, a2, ps ++ [l], ?_, ?_, ?_, a4, ?_, ?_, ?_, ?_⟩
  · rw [upd_same, List.map_append]
    rfl
  · rw [List.length_append, List.length_append, a2]
    rfl
  · intro hm
    rcases List.mem_append.mp hm with h | h
    · exact a3 h
    · exact hDl (List.mem_singleton.mp h)
  · intro p hp
    rcases List.mem_append.mp hp with h | h
    · exact a5 p h
    · rw [List.mem_singleton.mp h]
      exact l0
  · have at_ : ∀ (i : Nat) (p : Addr), (ps ++ [l])[i]? = some p → (i < ps.length ∧ ps[i]? = some p) ∨ (i = ps.length ∧ p = l) := by
      intro i p hp
      by_cases hi : i < ps.length
      · rw [List.getElem?_append_left hi] at hp
        exact Or.inl ⟨hi, hp⟩
      · rw [List.getElem?_append_right (by omega)] at hp
        have : i - ps.length = 0 := by
          cases hq : i - ps.length with
          | zero => rfl
          | succ n => rw [hq] at hp; simp at hp
        rw [this] at hp
        simp at hp
        exact Or.inr ⟨by omega, hp.symm⟩
    intro i j p hi hj
    rcases at_ i p hi with ⟨b1, b2⟩ | ⟨b1, b2⟩ <;> rcases at_ j p hj with ⟨c1, c2⟩ | ⟨c1, c2⟩
    · exact a6 i j p b2 c2
    · exact absurd c2 (lps i p b2)
    · exact absurd b2 (lps j p c2)
    · omega
  · intro i p hp
    by_cases hi : i < ps.length
    · rw [List.getElem?_append_left hi] at hp
      have hne : p ≠ D := fun z => a3 (z ▸ List.mem_of_getElem? hp)
      rw [upd_ne hne, upd_ne (lps i p hp), a7 i p hp, List.getD_eq_getElem?_getD, List.getD_eq_getElem?_getD, List.getElem?_append_left (by omega)]
    · rw [List.getElem?_append_right (by omega)] at hp
      have e0 : i - ps.length = 0 := by
        cases hq : i - ps.length with
        | zero => rfl
        | succ n => rw [hq] at hp; simp at hp
      rw [e0] at hp
      simp at hp
      subst hp
      rw [upd_ne hDl.symm, upd_same, List.getD_eq_getElem?_getD, List.getElem?_append_right (by omega)]
      have e1 : i - rs.length = 0 := by omega
      rw [e1]
      rfl
  · exact Same.mut (Same.mut a8 l0) a4
theorem NL.row {H0 H : Hp} {D : Addr} {rs : List (List Int)} {i : Nat} (h : NL H0 H D rs) (hi : i < rs.length) :
    ∃ (ps : List Addr) (p : Addr), H D = some (.lst (ps.map V.ref)) ∧ ps.length = rs.length ∧ (ps.map V.ref)[i]? = some (.ref p) ∧ H p = some (.lst ((rs.getD i []).map V.int)) ∧
      ∀ (z : Int) (k : Nat), NL H0 (upd H p (.lst (((rs.getD i []).map V.int).set k (.int z)))) D (rs.set i ((rs.getD i []).set k z)) := by
  obtain ⟨ps, a1, a2, a3, a4, a5, a6, a7, a8⟩ := h
  have hlt : i < ps.length := by omega
  have ep : ps[i]? = some ps[i] := List.getElem?_eq_getElem hlt
  have hp0 := a5 _ (List.getElem_mem hlt)
  have hDp : D ≠ ps[i] := fun z => a3 (z ▸ List.getElem_mem hlt)
  refine ⟨ps, ps[i], a1, a2, by rw [List.getElem?_map, ep]; rfl, a7 i _ ep, ?_⟩
  intro z k
  refine ⟨ps, by rw [upd_ne hDp]; exact a1, by rw [List.length_set]; exact a2, a3, a4, a5, a6, ?_, Same.mut a8 hp0⟩
  intro j q hq
  by_cases hij : j = i
  · subst hij
    have eq : q = ps[j] := Option.some.inj (hq.symm.trans ep)
    rw [eq, upd_same, List.getD_eq_getElem?_getD (l := rs.set _ _), List.getElem?_set_self hi, ← List.map_set]
    rfl
  · have hne : q ≠ ps[i] := fun e => hij (a6 j i q hq (by rw [e]; exact ep))
    rw [upd_ne hne, a7 j q hq, List.getD_eq_getElem?_getD, List.getD_eq_getElem?_getD, List.getElem?_set_ne (fun e => hij e.symm)]
theorem NL.swap {H0 H : Hp} {D : Addr} {rs : List (List Int)} {i j : Nat} (h : NL H0 H D rs) (hi : i < rs.length) (hj : j < rs.length) (hij : i ≠ j) :
    ∃ (ps : List Addr) (p q : Addr), H D = some (.lst (ps.map V.ref)) ∧ ps.length = rs.length ∧ (ps.map V.ref)[i]? = some (.ref p) ∧ (ps.map V.ref)[j]? = some (.ref q) ∧
      ∀ o, NL H0 (upd (upd H D o) D (.lst (((ps.map V.ref).set i (.ref q)).set j (.ref p)))) D ((rs.set i (rs.getD j [])).set j (rs.getD i [])) := by
  obtain ⟨ps, a1, a2, a3, a4, a5, a6, a7, a8⟩ := h
  have hli : i < ps.length := by omega
  have hlj : j < ps.length := by omega
  have ei : ps[i]? = some ps[i] := List.getElem?_eq_getElem hli
  have ej : ps[j]? = some ps[j] := List.getElem?_eq_getElem hlj
  refine ⟨ps, ps[i], ps[j], a1, a2, by rw [List.getElem?_map, ei]; rfl, by rw [List.getElem?_map, ej]; rfl, ?_⟩
  intro o
  have at_ : ∀ (k : Nat) (p : Addr), ((ps.set i ps[j]).set j ps[i])[k]? = some p → (k = j ∧ p = ps[i]) ∨ (k = i ∧ k ≠ j ∧ p = ps[j]) ∨ (k ≠ i ∧ k ≠ j ∧ ps[k]? = some p) := by
    intro k p hk
    by_cases kj : k = j
    · subst kj
      rw [List.getElem?_set_self (by rw [List.length_set]; omega)] at hk
      exact Or.inl ⟨rfl, (Option.some.inj hk).symm⟩
    · rw [List.getElem?_set_ne (fun e => kj e.symm)] at hk
      by_cases ki : k = i
      · subst ki
        rw [List.getElem?_set_self (by omega)] at hk
        exact Or.inr (Or.inl ⟨rfl, kj, (Option.some.inj hk).symm⟩)
      · rw [List.getElem?_set_ne (fun e => ki e.symm)] at hk
        exact Or.inr (Or.inr ⟨ki, kj, hk⟩)
  have mem_ : ∀ p ∈ (ps.set i ps[j]).set j ps[i], p ∈ ps := by
    intro p hp
    rcases List.mem_or_eq_of_mem_set hp with h | h
    · rcases List.mem_or_eq_of_mem_set h with h | h
      · exact h
      · rw [h]
        exact List.getElem_mem hlj
    · rw [h]
      exact List.getElem_mem hli
  refine ⟨(ps.set i ps[j]).set j ps[i], ?_, by simp [a2], fun hm => a3 (mem_ D hm), a4, fun p hp => a5 p (mem_ p hp), ?_, ?_, Same.mut (Same.mut a8 a4) a4⟩
  · rw [upd_same, List.map_set, List.map_set]
  · intro k l p hk hl
    rcases at_ k p hk with ⟨b1, b2⟩ | ⟨b1, b0, b2⟩ | ⟨b1, b0, b2⟩ <;> rcases at_ l p hl with ⟨c1, c2⟩ | ⟨c1, c0, c2⟩ | ⟨c1, c0, c2⟩
    · omega
    · have := a6 i j p (by rw [b2]; exact ei) (by rw [c2]; exact ej)
      omega
    · have := a6 i l p (by rw [b2]; exact ei) c2
      omega
    · have := a6 i j p (by rw [c2]; exact ei) (by rw [b2]; exact ej)
      omega
    · omega
    · have := a6 j l p (by rw [b2]; exact ej) c2
      omega
    · have := a6 i k p (by rw [c2]; exact ei) b2
      omega
    · have := a6 j k p (by rw [c2]; exact ej) b2
      omega
    · exact a6 k l p b2 c2
  · intro k p hk
    have hne : p ≠ D := fun z => a3 (z ▸ mem_ p (List.mem_of_getElem? hk))
    rw [upd_ne hne, upd_ne hne]
    rcases at_ k p hk with ⟨b1, b2⟩ | ⟨b1, b0, b2⟩ | ⟨b1, b0, b2⟩
    · rw [b2, a7 i _ ei, b1, List.getD_eq_getElem?_getD (l := List.set _ _ _), List.getElem?_set_self (by rw [List.length_set]; omega)]
      rfl
    · rw [b2, a7 j _ ej, List.getD_eq_getElem?_getD (l := List.set _ _ _), List.getElem?_set_ne (fun e => b0 e.symm), b1, List.getElem?_set_self (by omega)]
      rfl
    · rw [a7 k p b2, List.getD_eq_getElem?_getD, List.getD_eq_getElem?_getD, List.getElem?_set_ne (fun e => b0 e.symm), List.getElem?_set_ne (fun e => b1 e.symm)]
end Gd
namespace Gd
open PySem PySem.Spec PyProof.Rows L2
theorem ixN_of0 {n i : Nat} (h : i < n) : ixN n (0 + (i : Int)) = some i := by
  rw [Int.zero_add]
  exact ixN_of h
def mix (old new : Nat → Int) (w c : Nat) : List Int := (List.range w).map fun k => if k < c then new k else old k
theorem mix_len {old new : Nat → Int} {w c : Nat} : (mix old new w c).length = w := by simp [mix]
theorem mix_zero {r : List Int} {new : Nat → Int} {w : Nat} (h : r.length = w) : mix (fun k => r.getD k 0) new w 0 = r := by
  subst h
  unfold mix
  conv => rhs; rw [← row_id r]
  refine List.map_congr_left ?_
  intro k _
  rw [if_neg (by omega)]
theorem mix_full {old new : Nat → Int} {w : Nat} : mix old new w w = (List.range w).map new := by
  unfold mix
  refine List.map_congr_left ?_
  intro k hk
  rw [if_pos (List.mem_range.mp hk)]
theorem mix_set {old new : Nat → Int} {w c : Nat} (h : c < w) : (mix old new w c).set c (new c) = mix old new w (c + 1) := by
  apply List.ext_getElem
  · simp [mix]
  · intro k h1 h2
    rw [List.getElem_set]
    simp only [mix, List.getElem_map, List.getElem_range]
    split
    · rename_i e
      subst e
      rw [if_pos (by omega)]
    · rename_i e
      by_cases hk : k < c
      · rw [if_pos hk, if_pos (by omega)]
      · rw [if_neg hk, if_neg (by omega)]
theorem mix_at {old new : Nat → Int} {w c k : Nat} (h : k < w) : (mix old new w c).getD k 0 = if k < c then new k else old k := by
  unfold mix
  rw [getD_range h]
theorem getD_set_self {rs : List (List Int)} {i : Nat} {r : List Int} (h : i < rs.length) : (rs.set i r).getD i [] = r := by
  rw [List.getD_eq_getElem?_getD, List.getElem?_set_self h]
  rfl
theorem getD_set_ne {rs : List (List Int)} {i j : Nat} {r : List Int} (h : i ≠ j) : (rs.set i r).getD j [] = rs.getD j [] := by
  rw [List.getD_eq_getElem?_getD, List.getElem?_set_ne h, List.getD_eq_getElem?_getD]
theorem set_self {rs : List (List Int)} {i : Nat} (h : i < rs.length) : rs.set i (rs.getD i []) = rs := by
  apply List.ext_getElem
  · simp
  · intro k h1 h2
    rw [List.getElem_set]
    split
    · rename_i e
      subst e
      rw [List.getD_eq_getElem?_getD, List.getElem?_eq_getElem h]
      rfl
    · rfl
end Gd
namespace Gd
open PySem PySem.Spec PyProof.Rows L2
/-! ### reversed(t), t a tuple -/
section
variable {X : Cx} {K : PySem.W.Frag}
theorem pi_revK {tg e : Expr} {te : TE} {p pos : Pos} (hK : X.K = K) (hg : Gl X "reversed") (hm : X.mg "reversed" = none) (he : PE X e te)
    (hs : starEach [e] X.env = (false, eval e X.env) :: starEach [] X.env := by rfl) :
    PI X tg (.Call (.Name "reversed" p) [e] [] pos) (RT.iRevA K te) := by
  subst hK; exact RT.pi_revA hg hm he hs
end
section
variable {K : PySem.W.Frag} {te : TE} {vs : List Nat} {σ : L2.St} {H : Hp} {D : Addr} {Qd : Hp → Prop}
/-- [e for x in reversed(t)], t a tuple -/
theorem lctR {j : Nat} {a : Addr} {xs : List V} (f : Nat → PyData) (hD : H D = none)
    (hx : SqT K H a xs) (hn : xs.length ≤ 50000)
    (ht : ∀ i, i < xs.length → tupOnly (f i) = true)
    (hw : ∀ x, wipe ((wipe σ vs).set j (some x)) vs = wipe σ vs)
    (hs : ∀ (i : Nat) (x : V) (H1 : Hp) (Q : VK), i < xs.length → xs[xs.length - 1 - i]? = some x → Same H H1 →
      (∀ y H2, Same H1 H2 → Dp K H2 y (f i) → Q y H2) →
      te ((wipe σ vs).set j (some x)) H1 Q)
    (hd : ∀ H' ys, Same H H' → H' D = some (.lst ys) → DpAll K H' ys ((List.range xs.length).map f) → Qd H') :
    ∃ W : Nat → Nat → Hp → Prop, (∃ m, W 0 m (upd H D (.lst []))) ∧ ∀ i m H, W i m H →
      ((RT.ItvT K a xs.length).stop i H ∧ Qd H) ∨ ((RT.ItvT K a xs.length).go i H ∧ ∃ Nx : Hp → Prop,
        (∀ H', Nx H' → ∃ m', m' < m ∧ W (i + 1) m' H') ∧
        ∀ x H', (RT.ItvT K a xs.length).yld i H x H' → gName j x (wipe σ vs) H' fun σ2 H2 =>
          wipe σ2 vs = wipe σ vs ∧ tYes σ2 H2 fun b H3 =>
            if b = true then te σ2 H3 fun y H4 => ∃ acc, H4 D = some (.lst acc) ∧
              acc.length < sizeLine ∧ Nx (upd H4 D (.lst (acc ++ [y]))) else Nx H3) := by
  refine ⟨fun i m H' => m = xs.length - i ∧ i ≤ xs.length ∧ Lw K H f D i H',
    ⟨xs.length, rfl, Nat.zero_le _, Lw.start hD⟩, ?_⟩
  rintro i m H' ⟨rfl, hi, p⟩
  have qx := sqt_same p.1 hx
  by_cases hlt : i < xs.length
  · have hj : xs.length - 1 - i < xs.length := by omega
    have e1 : xs[xs.length - 1 - i]? = some xs[xs.length - 1 - i] := List.getElem?_eq_getElem hj
    refine .inr ⟨⟨hlt, xs, _, qx, e1⟩, Lw K H f D (i + 1),
      fun H2 p2 => ⟨xs.length - (i + 1), by omega, rfl, hlt, p2⟩, ?_⟩
    intro v H2 hy
    obtain ⟨rfl, f1⟩ := hy
    refine ⟨hw _, ?_⟩
    unfold tYes
    dsimp only
    rw [if_pos rfl]
    refine hs i v _ _ hlt (f1 xs qx) p.1 ?_
    intro y H3 e hy
    exact Lw.turn hD (tupOnly_le ht hlt) p e hy (by omega)
  · have e : i = xs.length := by omega
    subst e
    obtain ⟨h0, ys, h1, h2⟩ := p
    exact .inl ⟨Nat.le_refl _, hd H' ys h0 h1 h2⟩
end
/-! ### contrary deeds -/
def conD : Deed → Deed
  | .swap i j => .swap i j
  | .turn i => .turn i
  | .add i j k => .add i j (-k)
def backD (ds : List Deed) : List Deed := ds.reverse.map conD
theorem conD_con (d : Deed) : conD (conD d) = d := by cases d <;> simp [conD]
theorem backD_back (ds : List Deed) : backD (backD ds) = ds := by
  unfold backD
  rw [← List.map_reverse, List.reverse_reverse, List.map_map]
  conv => rhs; rw [← List.map_id ds]
  refine List.map_congr_left ?_
  intro d _
  exact conD_con d
theorem conD_ok {m : Nat} {b : Int} {d : Deed} (h : OkD m b d) : OkD m b (conD d) := by
  cases d with
  | swap i j => exact h
  | turn i => exact h
  | add i j k => exact ⟨h.1, h.2.1, h.2.2.1, by have := h.2.2.2; omega, by have := h.2.2.2; omega⟩
theorem backD_ok {m : Nat} {b : Int} {ds : List Deed} (h : ∀ d ∈ ds, OkD m b d) : ∀ d ∈ backD ds, OkD m b d := by
  intro d hd
  obtain ⟨x, hx, rfl⟩ := List.mem_map.mp hd
  exact conD_ok (h x (List.mem_reverse.mp hx))
theorem backD_len (ds : List Deed) : (backD ds).length = ds.length := by simp [backD]
theorem deed_at {ds : List Deed} {i : Nat} {x : Deed} (h : ds[i]? = some x) {e : Deed} : ds.getD i e = x := by
  rw [List.getD_eq_getElem?_getD, h]
  rfl
theorem backD_range (ds : List Deed) : (List.range ds.length).map (fun i => deedD (conD (ds.getD (ds.length - 1 - i) (.turn 0)))) = (backD ds).map deedD := by
  unfold backD
  apply List.ext_getElem
  · simp
  · intro i h1 h2
    have hi : i < ds.length := by simpa using h1
    simp only [List.getElem_map, List.getElem_range, List.getElem_reverse]
    rw [List.getD_eq_getElem?_getD, List.getElem?_eq_getElem (by omega)]
    rfl
end Gd
namespace Gd
open PySem PySem.Spec PyProof.Rows L2
/-! ### is of truths; all; xs[::-1] -/
section
variable {X : Cx} {K : PySem.W.Frag}
theorem op_isB : OpR X (compareOp .Is) (fun x y H Q => ∃ m n, x = .bl m ∧ y = .bl n ∧ Q (.bl (decide (m = n))) H) := by
  intro pins s σ H x y v u Q I rx ry h
  obtain ⟨m, n, rfl, rfl, q⟩ := h
  cases (show v = Value.bool m from rx)
  cases (show u = Value.bool n from ry)
  by_cases e : m = n
  · subst e
    exact wpAny_is_self rfl ⟨.bl true, H, I, rfl, by simpa using q⟩
  · exact wpAny_is_other rfl (fun z => e (Value.bool.inj z)) ⟨.bl false, H, I, rfl, by simpa [e] using q⟩
theorem op_isNotB : OpR X (compareOp .IsNot) (fun x y H Q => ∃ m n, x = .bl m ∧ y = .bl n ∧ Q (.bl (!decide (m = n))) H) := by
  intro pins s σ H x y v u Q I rx ry h
  obtain ⟨m, n, rfl, rfl, q⟩ := h
  cases (show v = Value.bool m from rx)
  cases (show u = Value.bool n from ry)
  by_cases e : m = n
  · subst e
    exact wpAny_isNot_self rfl ⟨.bl false, H, I, rfl, by simpa using q⟩
  · exact wpAny_isNot_other rfl (fun z => e (Value.bool.inj z)) ⟨.bl true, H, I, rfl, by simpa [e] using q⟩
theorem call_allK (hK : X.K = K) (hc : X.calm = true) : CallR X (.builtin "all") (rAll K) := by
  subst hK; exact cr_all hc
theorem pe_revLK {e : Expr} {te : TE} {k : Nat} {p1 p2 p3 pos : Pos} (hK : X.K = K) (he : PE X e te) :
    PE X (.Subscript e (.Slice none none (some (.UnaryOp .USub (.Constant (.int 1) k p1) p2)) p3) pos) (tRevL K te) := by
  subst hK; exact pe_revL he
end
end Gd
namespace Gd
open PySem PySem.Spec PyProof.Rows L2
/-! ### deeds and products -/
theorem ext_getD {α : Type} {l t : List α} (d : α) (hl : l.length = t.length) (h : ∀ k, k < l.length → l.getD k d = t.getD k d) : l = t := by
  apply List.ext_getElem hl
  intro k h1 h2
  have e := h k h1
  rw [List.getD_eq_getElem?_getD, List.getD_eq_getElem?_getD, List.getElem?_eq_getElem h1, List.getElem?_eq_getElem h2] at e
  exact e
theorem getD_set {α : Type} {l : List α} {i k : Nat} {x d : α} (hi : i < l.length) : (l.set i x).getD k d = if k = i then x else l.getD k d := by
  rw [List.getD_eq_getElem?_getD, List.getD_eq_getElem?_getD]
  by_cases h : k = i
  · subst h
    rw [List.getElem?_set_self hi, if_pos rfl]
    rfl
  · rw [List.getElem?_set_ne (fun e => h e.symm), if_neg h]
theorem getD_out {α : Type} {l : List α} {k : Nat} {d : α} (h : l.length ≤ k) : l.getD k d = d := by
  rw [List.getD_eq_getElem?_getD, List.getElem?_eq_none h]
  rfl
theorem scaleR_len {r : List Int} {k : Int} : (scaleR r k).length = r.length := by simp [scaleR]
theorem sumRow_len {r t : List Int} : (sumRow r t).length = r.length := by simp [sumRow]
theorem scaleR_at {r : List Int} {k : Int} {c : Nat} : (scaleR r k).getD c 0 = k * r.getD c 0 := by
  by_cases h : c < r.length
  · unfold scaleR
    rw [getD_range h]
  · rw [getD_out (by rw [scaleR_len]; omega), getD_out (by omega), Int.mul_zero]
theorem sumRow_at {r t : List Int} {c : Nat} (h : c < r.length) : (sumRow r t).getD c 0 = r.getD c 0 + t.getD c 0 := by
  unfold sumRow
  rw [getD_range h]
theorem scaleR_twice {r : List Int} : scaleR (scaleR r (-1)) (-1) = r := by
  refine ext_getD 0 (by rw [scaleR_len, scaleR_len]) fun k _ => ?_
  rw [scaleR_at, scaleR_at]
  omega
theorem sum_back {r t : List Int} {k : Int} : sumRow (sumRow r (scaleR t k)) (scaleR t (-k)) = r := by
  refine ext_getD 0 (by rw [sumRow_len, sumRow_len]) fun c hc => ?_
  rw [sumRow_len, sumRow_len] at hc
  rw [sumRow_at (by rw [sumRow_len]; exact hc), sumRow_at hc, scaleR_at, scaleR_at, Int.neg_mul]
  omega
theorem mulRow_scale {r : List Int} {w : Nat} {ts : List (List Int)} {k : Int} : mulRow (scaleR r k) w ts = scaleR (mulRow r w ts) k := by
  refine ext_getD 0 (by rw [scaleR_len, mulRow_len, mulRow_len]) fun c hc => ?_
  rw [mulRow_len] at hc
  rw [scaleR_at, mulRow_at hc, mulRow_at hc, scaleR_len, ← sumR_mull]
  refine sumR_congr fun i _ => ?_
  rw [scaleR_at, Int.mul_assoc]
theorem mulRow_sum {r t : List Int} {w : Nat} {ts : List (List Int)} (h : r.length = t.length) : mulRow (sumRow r t) w ts = sumRow (mulRow r w ts) (mulRow t w ts) := by
  refine ext_getD 0 (by rw [sumRow_len, mulRow_len, mulRow_len]) fun c hc => ?_
  rw [mulRow_len] at hc
  rw [sumRow_at (by rw [mulRow_len]; exact hc), mulRow_at hc, mulRow_at hc, mulRow_at hc, sumRow_len, ← h, ← sumR_add]
  refine sumR_congr fun i hi => ?_
  rw [sumRow_at hi, Int.add_mul]
theorem stepD_mul {as ts : List (List Int)} {n w m : Nat} {b : Int} {d : Deed} (hw : ∀ r ∈ as, r.length = n) (hm : as.length = m) (hd : OkD m b d) :
    mulR (stepD as d) w ts = stepD (mulR as w ts) d := by
  cases d with
  | swap i j =>
    obtain ⟨h1, h2, _⟩ := hd
    simp only [stepD]
    rw [mulR_at (by omega), mulR_at (by omega), mulR_eq, mulR_eq, List.map_set, List.map_set]
  | turn i =>
    have h1 : i < m := hd
    simp only [stepD]
    rw [mulR_at (by omega), mulR_eq, mulR_eq, List.map_set, mulRow_scale]
  | add i j k =>
    obtain ⟨h1, h2, _⟩ := hd
    simp only [stepD]
    rw [mulR_at (by omega), mulR_at (by omega), mulR_eq, mulR_eq, List.map_set, mulRow_sum, mulRow_scale]
    rw [scaleR_len, hw _ (getD_mem (by omega)), hw _ (getD_mem (by omega))]
theorem stepD_con {rs : List (List Int)} {m : Nat} {b : Int} {d : Deed} (hm : rs.length = m) (hd : OkD m b d) : stepD (stepD rs d) (conD d) = rs := by
  cases d with
  | swap i j =>
    obtain ⟨h1, h2, h3⟩ := hd
    simp only [conD, stepD]
    have e1 : ((rs.set i (rs.getD j [])).set j (rs.getD i [])).getD j [] = rs.getD i [] := by
      rw [getD_set (by rw [List.length_set]; omega), if_pos rfl]
    have e2 : ((rs.set i (rs.getD j [])).set j (rs.getD i [])).getD i [] = rs.getD j [] := by
      rw [getD_set (by rw [List.length_set]; omega), if_neg h3, getD_set (by omega), if_pos rfl]
    rw [e1, e2]
    refine ext_getD [] (by simp) fun k hk => ?_
    rw [getD_set (by simp; omega)]
    by_cases e1 : k = j
    · subst e1
      rw [if_pos rfl]
    · rw [if_neg e1, getD_set (by simp; omega)]
      by_cases e2 : k = i
      · subst e2
        rw [if_pos rfl]
      · rw [if_neg e2, getD_set (by rw [List.length_set]; omega), if_neg e1, getD_set (by omega), if_neg e2]
  | turn i =>
    have h1 : i < m := hd
    simp only [conD, stepD]
    have e1 : (rs.set i (scaleR (rs.getD i []) (-1))).getD i [] = scaleR (rs.getD i []) (-1) := by
      rw [getD_set (by omega), if_pos rfl]
    rw [e1, scaleR_twice]
    refine ext_getD [] (by simp) fun k hk => ?_
    rw [getD_set (by simp; omega)]
    by_cases e : k = i
    · subst e
      rw [if_pos rfl]
    · rw [if_neg e, getD_set (by omega), if_neg e]
  | add i j n =>
    obtain ⟨h1, h2, h3, _⟩ := hd
    simp only [conD, stepD]
    have e1 : (rs.set i (sumRow (rs.getD i []) (scaleR (rs.getD j []) n))).getD i [] = sumRow (rs.getD i []) (scaleR (rs.getD j []) n) := by
      rw [getD_set (by omega), if_pos rfl]
    have e2 : (rs.set i (sumRow (rs.getD i []) (scaleR (rs.getD j []) n))).getD j [] = rs.getD j [] := by
      rw [getD_set (by omega), if_neg (fun e => h3 e.symm)]
    rw [e1, e2, sum_back]
    refine ext_getD [] (by simp) fun k hk => ?_
    rw [getD_set (by simp; omega)]
    by_cases e : k = i
    · subst e
      rw [if_pos rfl]
    · rw [if_neg e, getD_set (by omega), if_neg e]
theorem turn_turn {rs : List (List Int)} {w : Nat} (h : Tb w rs) : turnR rs.length (turnR w rs) = rs := by
  refine ext_getD [] (by rw [turn_len]) fun k hk => ?_
  rw [turn_len] at hk
  refine ext_getD 0 ?_ fun c hc => ?_
  · rw [turnR_eq, getD_range hk, List.length_map, turn_len, h.len hk]
  · rw [turnR_eq, getD_range hk, List.length_map, turn_len] at hc
    show ent (turnR rs.length (turnR w rs)) k c = ent rs k c
    rw [ent_turn hk (by rw [turn_len]; exact hc), ent_turn hc hk]
theorem unit_turn_ne {n i : Nat} (hi : i < n) : stepD (unitR n) (.turn i) ≠ unitR n := by
  intro e
  have hl : (unitR n).length = n := by simp [unitR]
  have h1 : ent (stepD (unitR n) (.turn i)) i i = -1 := by
    unfold ent
    simp only [stepD]
    rw [getD_set (by omega), if_pos rfl, scaleR_at]
    have := ent_unit hi hi
    unfold ent at this
    rw [this, if_pos rfl]
    rfl
  rw [e, ent_unit hi hi, if_pos rfl] at h1
  omega
theorem unit_add_ne {n i j : Nat} (hi : i < n) (hj : j < n) (hij : i ≠ j) : stepD (unitR n) (.add i j 1) ≠ unitR n := by
  intro e
  have hl : (unitR n).length = n := by simp [unitR]
  have hr : ((unitR n).getD i []).length = n := by
    unfold unitR
    rw [getD_range hi]
    simp [unitRow]
  have h1 : ent (stepD (unitR n) (.add i j 1)) i j = 1 := by
    have a1 := ent_unit hi hj
    have a2 := ent_unit hj hj
    unfold ent at a1 a2 ⊢
    simp only [stepD]
    rw [getD_set (by omega), if_pos rfl, sumRow_at (by omega), scaleR_at, a1, a2, if_pos rfl, if_neg (fun z => hij z.symm)]
    rfl
  rw [e, ent_unit hi hj, if_neg (fun z => hij z.symm)] at h1
  omega
end Gd
namespace Gd
open PySem PySem.Spec PyProof.Rows L2
/-! ### truth > int -/
theorem sub_int_bool : isSubtype (.type "int") (.type "bool") = pure false := by rw [isSubtype_type]; kernel_rfl
theorem gives_gt_bi (p : Bool) (j : Int) (u : Tok) : Gives (Builtin.«int.__gt__» ⟨[.bool p, .int j u], []⟩) (.val (Value.bool (decide ((if p = true then (1 : Int) else 0) > j)))) :=
  .of_wp fun M A E s Q h => by obtain ⟨hp, g, d, tk, os⟩ := s; wp_walk; exact ⟨_, rfl, h⟩
theorem gt_bi {prog : Program} {w : World} {A : Around} {E : Value → Shared → Prop} {s : Shared} {p : Bool} {j : Int} {u : Tok} {Q : Value → Shared → Prop}
    (h : Q (.bool (decide ((if p = true then (1 : Int) else 0) > j))) s) : wpAny (model prog w) A (compareOp .Gt (.bool p) (.int j u)) Q E s := by
  show wpAny (model prog w) A (richCompare .Gt (.bool p) (.int j u)) Q E s
  have ha := typeIs_bool' s p
  have hb := typeIs_int s j u
  simp only [richCompare, ha.oneThing_none, cmpInfo]
  try with_reducible refine wpAny_holding ?_
  refine wpAny_bind (wpAny_cRoomFor_or (.inl rfl) ?_)
  refine wpAny_bind (wpAny_typeOf ha (wpAny_bind (wpAny_typeOf hb ?_)))
  rw [if_pos (by decide)]
  refine wpAny_bind (wpAny_of_eq sub_int_bool ?_)
  simp only [Bool.false_eq_true, if_false, pure_bind]
  refine wpAny_bind (wpAny_tryCompare_slot ha F.slot_bool_gt ?_)
  exact call_gives F.slot_bool_gt ha F.entry_int_gt (F.args_int_gt_2 _ _) (gives_gt_bi p j u) ⟨(fun hq => nomatch hq), wpAny_pure h⟩
section
variable {X : Cx} {K : PySem.W.Frag}
/-- x > j, x an int or a truth -/
def rGtN : R2 := fun x y H Q => (∃ i j, x = .int i ∧ y = .int j ∧ Q (.bl (decide (j < i))) H) ∨ ∃ p j, x = .bl p ∧ y = .int j ∧ Q (.bl (decide (j < if p = true then (1 : Int) else 0))) H
theorem op_gtN : OpR X (compareOp .Gt) rGtN := by
  intro pins s σ H x y v u Q I rx ry h
  rcases h with h | ⟨p, j, rfl, rfl, q⟩
  · exact op_gt pins s σ H x y v u Q I rx ry h
  · cases (show v = Value.bool p from rx)
    obtain ⟨t, rfl⟩ := ry
    exact gt_bi ⟨.bl _, H, I, rfl, q⟩
end
/-! ### t[::-1], t a tuple -/
theorem adjust_rev (n : Nat) : Builtin.Slice.sliceAdjust none none (-1) (n : Int) = ((n : Int) - 1, -1) := by
  unfold Builtin.Slice.sliceAdjust
  simp
theorem places_rev (n : Nat) : Builtin.Slice.slicePlaces ((n : Int) - 1) (-1) (-1) = n := by
  unfold Builtin.Slice.slicePlaces
  have h1 : ¬ ((-1 : Int) > 0) := by omega
  simp only [h1, if_false]
  split <;> simp <;> omega
theorem pick_rev (xs : Array Value) : ((List.range xs.size).filterMap fun (m : Nat) => xs[(((xs.size : Nat) : Int) - 1 + (m : Int) * -1).toNat]?).toArray = xs.toList.reverse.toArray := by
  congr 1
  have e : (List.range xs.size).filterMap (fun (m : Nat) => xs[(((xs.size : Nat) : Int) - 1 + (m : Int) * -1).toNat]?) = (List.range xs.size).map (fun m => xs.toList.getD (xs.size - 1 - m) .none) := by
    have key : ∀ l : List Nat, (∀ m ∈ l, m < xs.size) → l.filterMap (fun (m : Nat) => xs[(((xs.size : Nat) : Int) - 1 + (m : Int) * -1).toNat]?) = l.map (fun m => xs.toList.getD (xs.size - 1 - m) .none) := by
      intro l
      induction l with
      | nil => intro _; rfl
      | cons m l ih =>
        intro hl
        have hm := hl m (List.mem_cons_self ..)
        have e1 : (((xs.size : Nat) : Int) - 1 + (m : Int) * -1).toNat = xs.size - 1 - m := by omega
        rw [List.filterMap_cons, List.map_cons, ih (fun z hz => hl z (List.mem_cons_of_mem _ hz)), e1, List.getD_eq_getElem?_getD, Array.getElem?_toList, Array.getElem?_eq_getElem (by omega)]
        rfl
    exact key _ fun m hm => List.mem_range.mp hm
  rw [e]
  apply List.ext_getElem
  · simp
  · intro i h1 h2
    have hi : i < xs.size := by simpa using h1
    simp only [List.getElem_map, List.getElem_range, List.getElem_reverse]
    rw [List.getD_eq_getElem?_getD, List.getElem?_eq_getElem (by rw [Array.length_toList]; omega)]
    simp
theorem getItem_rev {prog : Program} {w : World} {A : Around} {E : Value → Shared → Prop} {s : Shared} {t sl : Addr} {items : Array Value} {vl vu vs : Value} {Q : Value → Shared → Prop}
    (ht : IsTup s.heap t items) (hs : s.heap.IsSliceOf sl vl vu vs) (pl : IsPart vl none) (pu : IsPart vu none) (ps : IsPart vs (some (-1)))
    (h : Q (.ref s.heap.objs.size) { s with heap := s.heap.push { cls := .type "tuple", data := .seq items.toList.reverse.toArray } })
    (hsz : items.size ≤ sizeLine) : wpAny (model prog w) A (getItem (.ref t) (.ref sl)) Q E s := by
  have hok : sizeOk (.seq items.toList.reverse.toArray) := by
    show items.toList.reverse.toArray.size ≤ sizeLine
    simpa using hsz
  obtain ⟨os, hos, hcs, hds⟩ := id hs
  have hTs : s.TypeIs (.ref sl) "slice" := ⟨os, hos, hcs⟩
  unfold getItem
  try with_reducible refine wpAny_holding ?_
  first | refine wpAny_bind (wpAny_pure ?_) | skip
  refine wpAny_bind (wpAny_sequenceKey ht.typeIs (by decide) ?_)
  refine wpAny_bind (wpAny_callSpecial?_slot (name := Str.ofString "__getitem__") ht.typeIs PyProof.Rows.slot_tuple_getitem (wpAny_call_entry PyProof.Rows.slot_tuple_getitem ht.typeIs entry_tuple_getitem ?_ (args_tuple_getitem _ _)))
  show wpAny _ _ (Builtin.Tuple.tupleItemsOf (.ref t) >>= _) _ _ s
  refine wpAny_bind (tupleItemsOf_ ht ?_)
  refine wpAny_bind (wpAny_typeOf hTs ?_)
  rw [if_pos (by decide)]
  refine wpAny_bind ?_
  unfold Builtin.Slice.sliceApplied Builtin.Slice.sliceFields
  refine wpAny_bind (wpAny_bind (wpAny_field hos hds (x := vl) rfl (wpAny_bind (wpAny_field hos hds (x := vu) rfl (wpAny_bind (wpAny_field hos hds (x := vs) rfl (wpAny_pure ?_)))))))
  refine wpAny_bind (HT.slicePart_ ps ?_)
  show wpAny _ _ (if ((-1 : Int) == 0) = true then _ else _) _ _ s
  rw [if_neg (by decide)]
  refine wpAny_bind (HT.slicePart_ pl (wpAny_bind (HT.slicePart_ pu (wpAny_bind (wpAny_pure ?_)))))
  show wpAny _ _ (match Builtin.Slice.sliceAdjust none none (-1) (items.size : Int) with | (lo, hi) => pure (lo, (-1 : Int), Builtin.Slice.slicePlaces lo hi (-1))) _ _ s
  rw [adjust_rev]
  show wpAny _ _ (pure ((items.size : Int) - 1, (-1 : Int), Builtin.Slice.slicePlaces ((items.size : Int) - 1) (-1) (-1))) _ _ s
  rw [places_rev]
  refine wpAny_pure ?_
  show wpAny _ _ (if ((items.size : Int) - 1 == 0 && (-1 : Int) == 1 && items.size == items.size) = true then _ else _) _ _ s
  rw [if_neg (by simp), pick_rev]
  first
    | exact wpAny_bind (m := Builtin.Tuple.tupleExact _) (wpAny_newObj_type (wpAny_pure ⟨_, rfl, wpAny_pure h⟩) hok)
    | exact wpAny_bind (m := Builtin.Tuple.tupleExact _) (wpAny_newObj_type (wpAny_bind (wpAny_pure (wpAny_pure ⟨_, rfl, wpAny_pure h⟩))) hok)
    | exact wpAny_bind (wpAny_bind (m := Builtin.Tuple.tupleExact _) (wpAny_newObj_type (wpAny_pure (wpAny_pure ⟨_, rfl, wpAny_pure h⟩)) hok))
    | exact wpAny_bind (wpAny_bind (m := Builtin.Tuple.tupleExact _) (wpAny_newObj_type (wpAny_pure ⟨_, rfl, wpAny_pure h⟩) hok))
def tRevT (K : PySem.W.Frag) (te : TE) : TE := fun σ H Q => te σ H fun x H1 => ∃ a xs, x = .ref a ∧ SqT K H1 a xs ∧ ∀ p, H1 p = none → Q (.ref p) (upd H1 p (.tup xs.reverse))
theorem pe_revT {X : Cx} {e : Expr} {te : TE} {k : Nat} {p1 p2 p3 pos : Pos} (he : PE X e te) :
    PE X (.Subscript e (.Slice none none (some (.UnaryOp .USub (.Constant (.int 1) k p1) p2)) p3) pos) (tRevT X.K te) := by
  refine ⟨fun pins s σ H Q I h => Subscript_ (thn (he.run pins s σ H _ I h) fun v s1 hx => ?_)⟩
  obtain ⟨x, H1, I1, r1, a, xs, rfl, hq, q⟩ := hx
  cases r1
  have hm : PO X (some (.UnaryOp .USub (.Constant (.int 1) k p1) p2)) (tPart (tUn (rU fun i => .int (-i)) (tC (.int 1)))) := po_some (pe_un un_neg pe_int)
  refine wpAny_Slice (thn (po_none.run pins s1 σ H1 (fun o G => o = none ∧ G = H1) I1 ⟨rfl, rfl⟩) fun vl s2 hl => ?_)
  obtain ⟨o2, G2, I2, pl, eo, eG⟩ := hl
  subst eo eG
  refine thn (po_none.run pins s2 σ _ (fun o G => o = none ∧ G = G2) I2 ⟨rfl, rfl⟩) fun vu s3 hu => ?_
  obtain ⟨o3, G3, I3, pu, eo, eG⟩ := hu
  subst eo eG
  refine thn (hm.run pins s3 σ _ (fun o G => o = some (-1) ∧ G = G3) I3 ⟨1, rfl, -1, rfl, rfl, rfl⟩) fun vs s4 hv => ?_
  obtain ⟨o4, G4, I4, ps, eo, eG⟩ := hv
  subst eo eG
  have I5 : Inv X pins σ G4 { s4 with heap := s4.heap.push { cls := .type "slice", data := .fields #[vl, vu, vs] } } := I4.kept (t' := s4.toks) fun b o z => Heap.get?_push_of_some _ z
  obtain ⟨its, r, ht, hz⟩ := I5.tuple hq
  have hn := r.length
  refine tail_any (ops := [.ref a, .ref s4.heap.objs.size]) ht.typeIs (PyProof.Rows.slot_tuple_getitem.lookup) ?_ (by with_unfolding_all rfl)
  refine getItem_rev ht (Heap.IsSliceOf.new _ vl vu vs) pl pu ps ?_ (by rw [List.size_toArray]; omega)
  refine ⟨.ref _, _, I5.laid (t' := s4.toks) (o := .tup xs.reverse) (fun b o z => Heap.get?_push_of_some _ z) (Nat.le_refl _) ?_, rfl, q _ (I5.hok.fresh (Nat.le_refl _))⟩
  exact ⟨by rw [List.length_reverse]; omega, _, r.reverse, IsTup.new _ _⟩
theorem pe_revTK {X : Cx} {K : PySem.W.Frag} {e : Expr} {te : TE} {k : Nat} {p1 p2 p3 pos : Pos} (hK : X.K = K) (he : PE X e te) :
    PE X (.Subscript e (.Slice none none (some (.UnaryOp .USub (.Constant (.int 1) k p1) p2)) p3) pos) (tRevT K te) := by
  subst hK; exact pe_revT he
end Gd
namespace Gd
open PySem PySem.Spec PyProof.Rows L2
section
variable {X : Cx} {K : PySem.W.Frag}
theorem call_anyK (hK : X.K = K) (hc : X.calm = true) : CallR X (.builtin "any") (rAny K) := by
  subst hK; exact cr_any hc
theorem op_in_seqK (hK : X.K = K) : OpR X (compareOp .In) (rIn K false) := by subst hK; exact op_in_seq
theorem op_notIn_seqK (hK : X.K = K) : OpR X (compareOp .NotIn) (rIn K true) := by subst hK; exact op_notIn_seq
end
end Gd
namespace Gd
open PySem PySem.Spec PyProof.Rows L2
/-! ### a heap without one object -/
def hid (a : Addr) (H : Hp) : Hp := fun b => if b = a then none else H b
theorem hid_le {a : Addr} {H : Hp} : Same (hid a H) H := fun b o h => by
  unfold hid at h
  by_cases z : b = a
  · rw [if_pos z] at h; cases h
  · rw [if_neg z] at h; exact h
theorem hid_sb {a : Addr} {H H' : Hp} (e : Sb a H H') : Same (hid a H) (hid a H') := fun b o h => by
  unfold hid at h ⊢
  by_cases z : b = a
  · rw [if_pos z] at h; cases h
  · rw [if_neg z] at h ⊢; exact e b o z h
theorem hid_of {a : Addr} {H H' : Hp} (e : Same H H') : Same (hid a H) (hid a H') := hid_sb (Sb.of e)
theorem hid_upd {a p : Addr} {H : Hp} {o : HO} (h : p ≠ a) : hid a (upd H p o) = upd (hid a H) p o := by
  funext b
  unfold hid
  by_cases z : b = p
  · subst z
    rw [if_neg h, upd_same, upd_same]
  · rw [upd_ne z, upd_ne z]
theorem hid_none {a p : Addr} {H : Hp} (h : H p = none) : hid a H p = none := by
  unfold hid
  split
  · rfl
  · exact h
theorem hid_at {a p : Addr} {H : Hp} {o : HO} (h : H p = some o) (n : p ≠ a) : hid a H p = some o := by
  unfold hid
  rw [if_neg n]
  exact h
section
variable {K : PySem.W.Frag} {H : Hp} {a p : Addr} {xs : List V} {ds es : List PyData} {Q : VK} {x y v : V} {d : PyData}
theorem new_ne (na : H a ≠ none) (np : H p = none) : p ≠ a := fun z => na (z ▸ np)
theorem Fd.nn {s : Addr} {n : Nat} (f : Fd H a s n) : H a ≠ none := by
  obtain ⟨ys, h⟩ := f.at
  rw [h]
  exact Option.some_ne_none _
/-- data that don't hang on a -/
abbrev Dq (K : PySem.W.Frag) (a : Addr) (H : Hp) (v : V) (d : PyData) : Prop := Dp K (hid a H) v d
abbrev DqAll (K : PySem.W.Frag) (a : Addr) (H : Hp) (xs : List V) (ds : List PyData) : Prop := DpAll K (hid a H) xs ds
theorem Dq.dp (h : Dq K a H v d) : Dp K H v d := Dp.same hid_le _ _ h
theorem DqAll.dp (h : DqAll K a H xs ds) : DpAll K H xs ds := DpAll.same hid_le _ _ h
theorem Dq.sb {H' : Hp} (h : Dq K a H v d) (e : Sb a H H') : Dq K a H' v d := Dp.same (hid_sb e) _ _ h
theorem DqAll.sb {H' : Hp} (h : DqAll K a H xs ds) (e : Sb a H H') : DqAll K a H' xs ds := DpAll.same (hid_sb e) _ _ h
theorem Dq.same {H' : Hp} (h : Dq K a H v d) (e : Same H H') : Dq K a H' v d := Dp.same (hid_of e) _ _ h
theorem DqAll.same {H' : Hp} (h : DqAll K a H xs ds) (e : Same H H') : DqAll K a H' xs ds := DpAll.same (hid_of e) _ _ h
theorem tupQ (na : H a ≠ none) (np : H p = none) (ha : DqAll K a H xs ds) : ∃ H', upd H p (.tup xs) = H' ∧ Same H H' ∧ Dq K a H' (.ref p) (.tuple ds) := by
  refine ⟨_, rfl, Same.new np, ?_⟩
  show Dp K (hid a (upd H p (.tup xs))) (.ref p) (.tuple ds)
  rw [hid_upd (new_ne na np)]
  exact .tup (SqT.of upd_same) (DpAll.same (Same.new (hid_none np)) _ _ ha)
theorem lstQ (na : H a ≠ none) (np : H p = none) (ha : DqAll K a H xs ds) : ∃ H', upd H p (.lst xs) = H' ∧ Same H H' ∧ H' p = some (.lst xs) ∧ p ≠ a ∧ DqAll K a H' xs ds := by
  refine ⟨_, rfl, Same.new np, upd_same, new_ne na np, ?_⟩
  show DpAll K (hid a (upd H p (.lst xs))) xs ds
  rw [hid_upd (new_ne na np)]
  exact DpAll.same (Same.new (hid_none np)) _ _ ha
theorem Dq.lst (h : H p = some (.lst xs)) (n : p ≠ a) (ha : DqAll K a H xs ds) : Dq K a H (.ref p) (.list ds) := L2.Dp.lst (SqL.of (hid_at h n)) ha
theorem dpa_take : ∀ (n : Nat) (ds : List PyData) (xs : List V), DpAll K H xs ds → DpAll K H (xs.take n) (ds.take n)
  | 0, ds, xs, _ => by rw [List.take_zero, List.take_zero]; exact .nil
  | n + 1, [], xs, h => by rw [dpa_nil h]; exact .nil
  | n + 1, d :: ds, xs, h => by
    obtain ⟨v, vs, rfl, h1, h2⟩ := dpa_cons h
    exact .cons h1 (dpa_take n ds vs h2)
theorem dpa_drop : ∀ (n : Nat) (ds : List PyData) (xs : List V), DpAll K H xs ds → DpAll K H (xs.drop n) (ds.drop n)
  | 0, ds, xs, h => h
  | n + 1, [], xs, h => by rw [dpa_nil h]; exact .nil
  | n + 1, d :: ds, xs, h => by
    obtain ⟨v, vs, rfl, h1, h2⟩ := dpa_cons h
    exact dpa_drop n ds vs h2
theorem dpa_reverse : ∀ (ds : List PyData) (xs : List V), DpAll K H xs ds → DpAll K H xs.reverse ds.reverse
  | [], xs, h => by rw [dpa_nil h]; exact .nil
  | d :: ds, xs, h => by
    obtain ⟨v, vs, rfl, h1, h2⟩ := dpa_cons h
    rw [List.reverse_cons, List.reverse_cons]
    exact dpa_snoc _ _ _ _ (dpa_reverse ds vs h2) h1
theorem cat_dq (na : H a ≠ none) (hx : Dq K a H x (.tuple ds)) (hy : Dq K a H y (.tuple es)) (hl : ds.length + es.length ≤ 100000)
    (k : ∀ v H', Same H H' → Dq K a H' v (.tuple (ds ++ es)) → Q v H') : rCatA K x y H Q := by
  obtain ⟨b, xs, rfl, hs, ha⟩ := dp_tup hx
  obtain ⟨c, ys, rfl, hs2, hb⟩ := dp_tup hy
  have l1 := dpa_len _ _ ha
  have l2 := dpa_len _ _ hb
  refine ⟨b, c, xs, ys, rfl, rfl, sqt_same hid_le hs, sqt_same hid_le hs2, Nat.le_trans (by omega : _ ≤ 100000) (by decide), ?_, ?_, ?_⟩
  · intro h
    subst h
    have e : ds = [] := List.eq_nil_of_length_eq_zero (by rw [← l1]; rfl)
    subst e
    exact k _ _ (Same.refl H) hy
  · intro _ h
    subst h
    have e : es = [] := List.eq_nil_of_length_eq_zero (by rw [← l2]; rfl)
    subst e
    exact k _ _ (Same.refl H) (by rw [List.append_nil]; exact hx)
  · intro _ _ p np
    obtain ⟨H', e', e1, h1⟩ := tupQ na np (dpa_append _ _ _ _ ha hb)
    rw [e']
    exact k _ _ e1 h1
theorem sl_dq {lo hi : Option Int} {i j : Nat} (na : H a ≠ none) (hx : Dq K a H x (.tuple ds)) (hi1 : HT.sIx ds.length 0 lo = i) (hj1 : HT.sIx ds.length ds.length hi = j)
    (k : ∀ v H', Same H H' → Dq K a H' v (.tuple ((ds.drop i).take (j - i))) → Q v H') : rSlA K x lo hi H Q := by
  obtain ⟨b, xs, rfl, hs, ha⟩ := dp_tup hx
  have l1 := dpa_len _ _ ha
  refine ⟨b, xs, rfl, sqt_same hid_le hs, ?_, ?_⟩
  · rintro ⟨h1, h2⟩
    rw [l1] at h1 h2
    have e0 : i = 0 := by omega
    have e1 : j = ds.length := by omega
    have := k (.ref b) H (Same.refl H)
    rw [e0, e1, List.drop_zero, Nat.sub_zero, List.take_length] at this
    exact this hx
  · intro _ p np
    have e : cutV xs lo hi = (xs.drop i).take (j - i) := by
      unfold cutV
      rw [l1, hi1, hj1]
    rw [e]
    obtain ⟨H', e', e1, h1⟩ := tupQ na np (dpa_take (j - i) _ _ (dpa_drop i _ _ ha))
    rw [e']
    exact k _ _ e1 h1
theorem rev_dq (na : H a ≠ none) (hx : Dq K a H x (.tuple ds)) (k : ∀ v H', Same H H' → Dq K a H' v (.tuple ds.reverse) → Q v H') :
    ∃ b xs, x = .ref b ∧ SqT K H b xs ∧ ∀ p, H p = none → Q (.ref p) (upd H p (.tup xs.reverse)) := by
  obtain ⟨b, xs, rfl, hs, ha⟩ := dp_tup hx
  refine ⟨b, xs, rfl, sqt_same hid_le hs, fun p np => ?_⟩
  obtain ⟨H', e', e1, h1⟩ := tupQ na np (dpa_reverse _ _ ha)
  rw [e']
  exact k _ _ e1 h1
theorem ix_dq {i : Nat} (hx : Dq K a H x (.tuple ds)) (hi : ds[i]? = some d) (k : ∀ v, Dq K a H v d → Q v H) : rIxT K x (.int (i : Int)) H Q := by
  obtain ⟨b, xs, rfl, hs, ha⟩ := dp_tup hx
  obtain ⟨v, hv, hd⟩ := dpa_at _ _ i d ha hi
  exact ⟨b, xs, _, v, rfl, rfl, sqt_same hid_le hs, atI_nat hv, k v hd⟩
theorem listT_dq (na : H a ≠ none) (hx : Dq K a H x (.tuple ds))
    (k : ∀ l H', H l = none → Same H H' → Dq K a H' (.ref l) (.list ds) → Q (.ref l) H') : rListK K [x] H Q := by
  obtain ⟨b, xs, rfl, hs, ha⟩ := dp_tup hx
  refine ⟨b, xs, rfl, .inr (sqt_same hid_le hs), fun l nl => ?_⟩
  obtain ⟨H', e', e1, h1, h2, h3⟩ := lstQ na nl ha
  rw [e']
  exact k l _ nl e1 (Dq.lst h1 h2 h3)
end
/-! ### kinds of data -/
def tyN : PyData → String
  | .none => "NoneType" | .bool _ => "bool" | .int _ => "int" | .str _ => "str" | .list _ => "list" | .tuple _ => "tuple" | .dict _ => "dict"
def isT : PyData → Bool
  | .tuple _ => true | _ => false
def isB : PyData → Bool
  | .bool _ => true | _ => false
def isI : PyData → Bool
  | .int _ | .bool _ => true | _ => false
def isNum : PyData → Bool
  | .int _ => true | _ => false
theorem sql_ty {K : PySem.W.Frag} {H : Hp} {a : Addr} {xs : List V} (h : SqL K H a xs) : TyX K H (.ref a) (.type "list") := by
  rcases h with (h | ⟨o, h⟩) | h
  · exact .base (.lst h)
  · exact .base (.frz h)
  · obtain ⟨o, its, n, hk, hc, _⟩ := h
    exact .kList hk hc
section
variable {K : PySem.W.Frag} {H : Hp} {v : V} {d : PyData} {Q : VK}
theorem ty_dp (h : Dp K H v d) : TyX K H v (.type (tyN d)) := by
  cases h with
  | non => exact .base .non
  | bl b => exact .base (.bl b)
  | int i => exact .base (.int i)
  | str x => exact .base (.str x)
  | lst hs _ => exact sql_ty hs
  | tup hs _ => exact sqt_ty hs
theorem isi_dp {c : String} {b : Bool} (h : Dp K H v d) (hk : kitB (tyN d) c = some b) (q : Q (.bl b) H) : rIsi K [v, .ty c] H Q :=
  ⟨_, _, _, _, b, rfl, .ty c, ty_dp h, kit_ty hk, q⟩
theorem isi_tuple (h : Dp K H v d) (q : Q (.bl (isT d)) H) : rIsi K [v, .ty "tuple"] H Q := by
  refine isi_dp h ?_ q
  cases d <;> first | (simp only [tyN, isT]; decide +kernel) | cases h
theorem isi_int (h : Dp K H v d) (q : Q (.bl (isI d)) H) : rIsi K [v, .ty "int"] H Q := by
  refine isi_dp h ?_ q
  cases d <;> first | (simp only [tyN, isI]; decide +kernel) | cases h
theorem isi_bool (h : Dp K H v d) (q : Q (.bl (isB d)) H) : rIsi K [v, .ty "bool"] H Q := by
  refine isi_dp h ?_ q
  cases d <;> first | (simp only [tyN, isB]; decide +kernel) | cases h
end
/-! ### data of bounded numbers, depth and size -/
mutual
def fz : PyData → Nat
  | .none | .bool _ | .int _ => 1
  | .str x => 1 + x.length
  | .list ds | .tuple ds => 1 + fzAll ds
  | .dict _ => 1
def fzAll : List PyData → Nat
  | [] => 0
  | d :: ds => fz d + fzAll ds
end
mutual
def fok (M : Nat) : PyData → Bool
  | .none | .bool _ => true
  | .int i => decide (i.natAbs ≤ M)
  | .str x => PyData.strOk x
  | .list ds | .tuple ds => fokAll M ds
  | .dict _ => false
def fokAll (M : Nat) : List PyData → Bool
  | [] => true
  | d :: ds => fok M d && fokAll M ds
end
structure Fn (M k n : Nat) (d : PyData) : Prop where
  ok : fok M d = true
  dep : d.depth ≤ k
  sz : fz d ≤ n
mutual
theorem fok_mono {M M' : Nat} (hM : M ≤ M') : ∀ d : PyData, fok M d = true → fok M' d = true
  | .none, _ => by simp only [fok]
  | .bool _, _ => by simp only [fok]
  | .int i, h => by simp only [fok, decide_eq_true_eq] at h ⊢; omega
  | .str x, h => by simpa only [fok] using h
  | .list ds, h => by simp only [fok] at h ⊢; exact fokAll_mono hM ds h
  | .tuple ds, h => by simp only [fok] at h ⊢; exact fokAll_mono hM ds h
  | .dict _, h => by simp [fok] at h
theorem fokAll_mono {M M' : Nat} (hM : M ≤ M') : ∀ ds : List PyData, fokAll M ds = true → fokAll M' ds = true
  | [], _ => by simp only [fokAll]
  | d :: ds, h => by
    simp only [fokAll, Bool.and_eq_true] at h ⊢
    exact ⟨fok_mono hM d h.1, fokAll_mono hM ds h.2⟩
end
theorem Fn.mono {M k n M' k' n' : Nat} {d : PyData} (h : Fn M k n d) (hM : M ≤ M') (hk : k ≤ k') (hn : n ≤ n') : Fn M' k' n' d :=
  ⟨fok_mono hM d h.ok, Nat.le_trans h.dep hk, Nat.le_trans h.sz hn⟩
theorem fokAll_iff {M : Nat} : ∀ ds : List PyData, fokAll M ds = true ↔ ∀ d ∈ ds, fok M d = true
  | [] => by simp [fokAll]
  | d :: ds => by simp only [fokAll, Bool.and_eq_true, fokAll_iff ds, List.mem_cons, forall_eq_or_imp]
theorem depthAll_iff {k : Nat} : ∀ ds : List PyData, PyData.depthAll ds ≤ k ↔ ∀ d ∈ ds, d.depth ≤ k
  | [] => by simp [PyData.depthAll]
  | d :: ds => by
    simp only [PyData.depthAll, List.mem_cons, forall_eq_or_imp, ← depthAll_iff ds]
    omega
theorem fzAll_app : ∀ ds es : List PyData, fzAll (ds ++ es) = fzAll ds + fzAll es
  | [], es => by simp [fzAll]
  | d :: ds, es => by simp only [List.cons_append, fzAll, fzAll_app ds es]; omega
theorem fz_pos : ∀ d : PyData, 1 ≤ fz d
  | .none | .bool _ | .int _ | .dict _ => by simp [fz]
  | .str x => by simp only [fz]; omega
  | .list ds | .tuple ds => by simp only [fz]; omega
theorem fzAll_len : ∀ ds : List PyData, ds.length ≤ fzAll ds
  | [] => by simp [fzAll]
  | d :: ds => by
    have := fz_pos d
    have := fzAll_len ds
    simp only [fzAll, List.length_cons]
    omega
theorem fzAll_mem : ∀ {ds : List PyData} {d : PyData}, d ∈ ds → fz d ≤ fzAll ds
  | e :: ds, d, h => by
    simp only [fzAll]
    rcases List.mem_cons.mp h with rfl | h
    · omega
    · have := fzAll_mem h
      omega
/-- a tuple or list of such -/
theorem fn_tup {M k n : Nat} {ds : List PyData} : Fn M (k + 1) n (.tuple ds) ↔ (∀ d ∈ ds, fok M d = true ∧ d.depth ≤ k) ∧ 1 + fzAll ds ≤ n := by
  constructor
  · rintro ⟨h1, h2, h3⟩
    simp only [fok] at h1
    simp only [PyData.depth] at h2
    simp only [fz] at h3
    have h2 : PyData.depthAll ds ≤ k := by omega
    exact ⟨fun d hd => ⟨(fokAll_iff ds).mp h1 d hd, (depthAll_iff ds).mp h2 d hd⟩, h3⟩
  · rintro ⟨h1, h3⟩
    refine ⟨?_, ?_, ?_⟩
    · simp only [fok]
      exact (fokAll_iff ds).mpr fun d hd => (h1 d hd).1
    · simp only [PyData.depth]
      have := (depthAll_iff (k := k) ds).mpr fun d hd => (h1 d hd).2
      omega
    · simpa only [fz] using h3
theorem fn_lst {M k n : Nat} {ds : List PyData} (h : Fn M k n (.tuple ds)) : Fn M k n (.list ds) := by
  refine ⟨?_, ?_, ?_⟩
  · simpa only [fok] using h.ok
  · simpa only [PyData.depth] using h.dep
  · simpa only [fz] using h.sz
/-! ### what repr and == ask -/
mutual
theorem fok_sh {M : Nat} (hM : M < 2 ^ 1900) : ∀ d : PyData, fok M d = true → d.showable = true ∧ d.hasDict = false ∧ d.canLay0 = true ∧ d.shown.length + 3 ≤ 1910 * fz d
  | .none, _ => ⟨by simp [PyData.showable], by simp [PyData.hasDict], by simp [PyData.canLay0], by simp only [PyData.shown, fz]; decide +kernel⟩
  | .bool b, _ => by
    refine ⟨by simp [PyData.showable], by simp [PyData.hasDict], by simp [PyData.canLay0], ?_⟩
    simp only [PyData.shown, fz]
    cases b <;> decide +kernel
  | .int i, h => by
    simp only [fok, decide_eq_true_eq] at h
    have s := Sh.int (i := i) (by omega)
    refine ⟨s.1, s.2.1, by simp [PyData.canLay0], ?_⟩
    have := s.2.2.2
    simp only [fz]
    omega
  | .str x, h => by
    simp only [fok] at h
    refine ⟨by simp [PyData.showable], by simp [PyData.hasDict], by simpa [PyData.canLay0] using h, ?_⟩
    have hx : ∀ c ∈ x.cps.toList, c < 16 ^ 8 := by
      intro c hc
      unfold PyData.strOk at h
      rw [Array.all_eq_true_iff_forall_mem] at h
      have := of_decide_eq_true (h c (by simpa using hc))
      omega
    have := PySem.StrLaws.reprText_len x hx
    simp only [PyData.shown, fz]
    omega
  | .list ds, h => by
    simp only [fok] at h
    obtain ⟨h1, h2, h3, h4, h5⟩ := fokAll_sh hM ds h
    refine ⟨by simpa only [PyData.showable] using h1, by simpa only [PyData.hasDict] using h2, by simpa only [PyData.canLay0] using h3, ?_⟩
    have e := PySem.listText_len_le (PyData.shownAll ds)
    simp only [PyData.shown, fz]
    omega
  | .tuple ds, h => by
    simp only [fok] at h
    obtain ⟨h1, h2, h3, h4, h5⟩ := fokAll_sh hM ds h
    refine ⟨by simpa only [PyData.showable] using h1, by simpa only [PyData.hasDict] using h2, by simpa only [PyData.canLay0] using h3, ?_⟩
    have e := PySem.tupleText_len_le (PyData.shownAll ds)
    simp only [PyData.shown, fz]
    omega
  | .dict _, h => by simp [fok] at h
theorem fokAll_sh {M : Nat} (hM : M < 2 ^ 1900) : ∀ ds : List PyData, fokAll M ds = true → PyData.showableAll ds = true ∧ PyData.hasDictAll ds = false ∧ PyData.canLayAll0 ds = true ∧
    ((PyData.shownAll ds).map (·.length)).sum + 3 * ds.length ≤ 1910 * fzAll ds ∧ (PyData.shownAll ds).length = ds.length
  | [], _ => ⟨by simp [PyData.showableAll], by simp [PyData.hasDictAll], by simp [PyData.canLayAll0], by simp [PyData.shownAll, fzAll], by simp [PyData.shownAll]⟩
  | d :: ds, h => by
    simp only [fokAll, Bool.and_eq_true] at h
    obtain ⟨a1, a2, a3, a4⟩ := fok_sh hM d h.1
    obtain ⟨b1, b2, b3, b4, b5⟩ := fokAll_sh hM ds h.2
    refine ⟨by simp only [PyData.showableAll, a1, b1, Bool.and_self], by simp only [PyData.hasDictAll, a2, b2, Bool.or_self], by simp only [PyData.canLayAll0, a3, b3, Bool.and_self], ?_, by simp only [PyData.shownAll, List.length_cons, b5]⟩
    simp only [PyData.shownAll, List.map_cons, List.sum_cons, fzAll, List.length_cons]
    omega
end
theorem Fn.sh {M k n : Nat} {d : PyData} (h : Fn M k n d) (hM : M < 2 ^ 1900) (hn : n ≤ 8000) : Sh k 15300000 d := by
  obtain ⟨h1, h2, _, h4⟩ := fok_sh hM d h.ok
  have := h.sz
  exact ⟨h1, h2, h.dep, by omega⟩
theorem Fn.shaped {M k n : Nat} {d : PyData} (h : Fn M k n d) (hM : M < 2 ^ 1900) (hk : k ≤ 64) : SeqAt.shaped d = true := by
  obtain ⟨_, _, h3, _⟩ := fok_sh hM d h.ok
  show (d.canLay0 && decide (d.depth ≤ 64)) = true
  rw [Bool.and_eq_true]
  exact ⟨h3, decide_eq_true (Nat.le_trans h.dep hk)⟩
theorem strOk_of (t : String) : PyData.strOk (Str.ofString t) = true := by
  rw [Str.ofString_eq_toList]
  unfold PyData.strOk
  rw [Array.all_eq_true_iff_forall_mem]
  intro c hc
  simp only [List.mem_toArray, List.mem_map] at hc
  obtain ⟨x, _, rfl⟩ := hc
  refine decide_eq_true ?_
  have hv := x.valid
  unfold UInt32.isValidChar Nat.isValidChar at hv
  show x.val.toNat < 1114112
  omega
end Gd
namespace Gd
open PySem PySem.Spec PyProof.Rows L2
theorem tup_or (d : PyData) : isT d = false ∨ ∃ ds, d = .tuple ds := by
  cases d <;> first | exact Or.inl rfl | exact Or.inr ⟨_, rfl⟩
theorem hid_self {D : Addr} {H : Hp} {o : HO} : hid D (upd H D o) = hid D H := by
  funext b
  unfold hid
  by_cases z : b = D
  · rw [if_pos z, if_pos z]
  · rw [if_neg z, if_neg z, upd_ne z]
theorem hid_new {D : Addr} {H H' : Hp} (e : Same H H') (n : H D = none) : Same H (hid D H') := fun b o h => by
  unfold hid
  rw [if_neg (ne_of_none h n)]
  exact e b o h
/-- what a comprehension has got so far -/
def Ac (K : PySem.W.Frag) (D : Addr) (H H' : Hp) (es : List PyData) : Prop := Same H H' ∧ ∃ ys, H' D = some (.lst ys) ∧ DqAll K D H' ys es
theorem Ac.start {K : PySem.W.Frag} {D : Addr} {H : Hp} (h : H D = none) : Ac K D H (upd H D (.lst [])) [] := ⟨Same.new h, [], upd_same, .nil⟩
theorem Ac.keep {K : PySem.W.Frag} {D : Addr} {H H1 H2 : Hp} {es : List PyData} (h : Ac K D H H1 es) (e : Same H1 H2) : Ac K D H H2 es := by
  obtain ⟨h0, ys, h1, h2⟩ := h
  exact ⟨h0.trans e, ys, e _ _ h1, h2.same e⟩
theorem Ac.push {K : PySem.W.Frag} {D : Addr} {H H1 H2 : Hp} {es : List PyData} {y : V} {d : PyData} (hD : H D = none) (h : Ac K D H H1 es) (e : Same H1 H2) (hy : Dp K (hid D H2) y d) (hl : es.length < 60000) :
    ∃ acc, H2 D = some (.lst acc) ∧ acc.length < sizeLine ∧ Ac K D H (upd H2 D (.lst (acc ++ [y]))) (es ++ [d]) := by
  obtain ⟨h0, ys, h1, h2⟩ := h.keep e
  refine ⟨ys, h1, ?_, Same.mut h0 hD, _, upd_same, ?_⟩
  · rw [dpa_len _ _ h2]
    exact Nat.lt_trans hl (by decide)
  · show DpAll K (hid D (upd H2 D (.lst (ys ++ [y])))) (ys ++ [y]) (es ++ [d])
    rw [hid_self]
    exact dpa_snoc _ _ _ _ h2 hy
section
variable {K : PySem.W.Frag} {te : TE} {tt : TT} {vs : List Nat} {σ : L2.St} {H : Hp} {D : Addr} {Qd : Hp → Prop}
/-- [x for x in t if c], t a tuple of data -/
theorem lctP {j : Nat} {a : Addr} {xs : List V} {ds : List PyData} (p : PyData → Bool) (hD : H D = none) (hx : SqT K H a xs) (ha : DpAll K H xs ds) (hn : ds.length ≤ 50000)
    (hw : ∀ x, wipe ((wipe σ vs).set j (some x)) vs = wipe σ vs)
    (hs : ∀ (x : V) (d : PyData) (H1 : Hp) (R : Bool → Hp → Prop), d ∈ ds → Dp K H1 x d → Same H H1 → (∀ H2, Same H1 H2 → R (p d) H2) → tt ((wipe σ vs).set j (some x)) H1 R)
    (he : ∀ (x : V) (H1 : Hp) (Q : VK), Q x H1 → te ((wipe σ vs).set j (some x)) H1 Q)
    (hd : ∀ H' ys, Same H H' → H' D = some (.lst ys) → DpAll K H' ys (ds.filter p) → Qd H') :
    ∃ W : Nat → Nat → Hp → Prop, (∃ m, W 0 m (upd H D (.lst []))) ∧ ∀ i m H, W i m H →
      ((Itt K a).stop i H ∧ Qd H) ∨ ((Itt K a).go i H ∧ ∃ Nx : Hp → Prop,
        (∀ H', Nx H' → ∃ m', m' < m ∧ W (i + 1) m' H') ∧
        ∀ x H', (Itt K a).yld i H x H' → gName j x (wipe σ vs) H' fun σ2 H2 =>
          wipe σ2 vs = wipe σ vs ∧ tt σ2 H2 fun b H3 =>
            if b = true then te σ2 H3 fun y H4 => ∃ acc, H4 D = some (.lst acc) ∧
              acc.length < sizeLine ∧ Nx (upd H4 D (.lst (acc ++ [y]))) else Nx H3) := by
  have hl : xs.length = ds.length := dpa_len _ _ ha
  refine lc_tup (xs := xs) (fun i H' => Ac K D H H' ((ds.take i).filter p)) (Ac.start hD) (fun i H' _ q => sqt_same q.1 hx) ?_ ?_
  · intro i x H' hi q
    obtain ⟨d, hd1, hd2⟩ := dpa_get _ _ i x ha hi
    have hlt := (List.getElem?_eq_some_iff.mp hd1).1
    have et : ds.take (i + 1) = ds.take i ++ [d] := by rw [List.take_succ, hd1]; rfl
    refine ⟨hw _, hs x d H' _ (List.mem_of_getElem? hd1) (Dp.same q.1 _ _ hd2) q.1 fun H2 e2 => ?_⟩
    by_cases hp : p d = true
    · rw [if_pos hp]
      refine he _ _ _ ?_
      rw [et, List.filter_append]
      have e3 : [d].filter p = [d] := by simp [hp]
      rw [e3]
      refine Ac.push hD q e2 (Dp.same (hid_new (q.1.trans e2) hD) _ _ hd2) ?_
      have h1 := List.length_filter_le p (ds.take i)
      rw [List.length_take] at h1
      omega
    · rw [if_neg hp, et, List.filter_append]
      have e3 : [d].filter p = [] := by simp [hp]
      rw [e3, List.append_nil]
      exact q.keep e2
  · rintro H' ⟨h0, ys, h1, h2⟩
    rw [hl, List.take_length] at h2
    exact hd H' ys h0 h1 h2.dp
end
/-! ### looks -/
def isRowD (w : Int) : PyData → Bool
  | .tuple ds => decide ((ds.length : Int) = w) && ds.all isNum
  | _ => false
def isTabD : PyData → Bool
  | .tuple [.int w, .tuple rows] => decide (0 ≤ w) && rows.all (isRowD w)
  | _ => false
def isUnitD : PyData → Bool
  | .tuple [.int w, .tuple rows] => isTabD (.tuple [.int w, .tuple rows]) && decide ((rows.length : Int) = w) && PyData.eqv (.tuple [.int w, .tuple rows]) (tabD w (unitR w.toNat))
  | _ => false
end Gd
namespace Gd
open PySem PySem.Spec PyProof.Rows L2
section
variable {K : PySem.W.Frag} {te : TE} {tt : TT} {vs : List Nat} {σ : L2.St} {H : Hp} {D : Addr} {Qd : Hp → Prop}
/-- [i for i in range(n) if c] -/
theorem lcrP {j n : Nat} (p : Nat → Bool) (hD : H D = none) (hn : n ≤ 50000)
    (hw : ∀ x, wipe ((wipe σ vs).set j (some x)) vs = wipe σ vs)
    (hs : ∀ (i : Nat) (H1 : Hp) (R : Bool → Hp → Prop), i < n → Same H H1 → (∀ H2, Same H1 H2 → R (p i) H2) → tt ((wipe σ vs).set j (some (.int (0 + (i : Int))))) H1 R)
    (he : ∀ (x : V) (H1 : Hp) (Q : VK), Q x H1 → te ((wipe σ vs).set j (some x)) H1 Q)
    (hd : ∀ H' ys, Same H H' → H' D = some (.lst ys) → DpAll K H' ys ((((List.range n).filter p).map fun (i : Nat) => (0 + (i : Int))).map PyData.int) → Qd H') :
    ∃ W : Nat → Nat → Hp → Prop, (∃ m, W 0 m (upd H D (.lst []))) ∧ ∀ i m H, W i m H →
      ((Itr 0 n).stop i H ∧ Qd H) ∨ ((Itr 0 n).go i H ∧ ∃ Nx : Hp → Prop,
        (∀ H', Nx H' → ∃ m', m' < m ∧ W (i + 1) m' H') ∧
        ∀ x H', (Itr 0 n).yld i H x H' → gName j x (wipe σ vs) H' fun σ2 H2 =>
          wipe σ2 vs = wipe σ vs ∧ tt σ2 H2 fun b H3 =>
            if b = true then te σ2 H3 fun y H4 => ∃ acc, H4 D = some (.lst acc) ∧
              acc.length < sizeLine ∧ Nx (upd H4 D (.lst (acc ++ [y]))) else Nx H3) := by
  refine lc_range (lo := 0) (n := n) (fun i H' => Ac K D H H' ((((List.range i).filter p).map fun (i : Nat) => (0 + (i : Int))).map PyData.int)) (Ac.start hD) ?_ ?_
  · intro i H' hi q
    refine ⟨hw _, hs i H' _ hi q.1 fun H2 e2 => ?_⟩
    by_cases hp : p i = true
    · rw [if_pos hp]
      refine he _ _ _ ?_
      have e3 : (List.range (i + 1)).filter p = (List.range i).filter p ++ [i] := by
        rw [List.range_succ, List.filter_append]
        simp [hp]
      rw [e3, List.map_append, List.map_append]
      refine Ac.push hD q e2 (.int _) ?_
      have h1 := List.length_filter_le p (List.range i)
      rw [List.length_map, List.length_map]
      rw [List.length_range] at h1
      omega
    · rw [if_neg hp]
      have e3 : (List.range (i + 1)).filter p = (List.range i).filter p := by
        rw [List.range_succ, List.filter_append]
        simp [hp]
      rw [e3]
      exact q.keep e2
  · rintro H' ⟨h0, ys, h1, h2⟩
    exact hd H' ys h0 h1 h2.dp
end
/-! ### tables among data -/
theorem tab_true {d : PyData} (h : isTabD d = true) : ∃ (n : Nat) (rs : List (List Int)), d = tabD n rs ∧ ∀ r ∈ rs, r.length = n := by
  unfold isTabD at h
  split at h
  · rename_i wd rows
    rw [Bool.and_eq_true] at h
    obtain ⟨h0, h1⟩ := h
    have h0 := of_decide_eq_true h0
    obtain ⟨n, rfl⟩ := Int.eq_ofNat_of_zero_le h0
    have row : ∀ d : PyData, isRowD (n : Int) d = true → ∃ r : List Int, d = rowD r ∧ r.length = n := by
      intro d hd
      unfold isRowD at hd
      split at hd
      · rename_i ds
        rw [Bool.and_eq_true] at hd
        obtain ⟨k0, k1⟩ := hd
        have k0 := of_decide_eq_true k0
        have key : ∀ ds : List PyData, ds.all isNum = true → ∃ r : List Int, ds = r.map PyData.int := by
          intro ds
          induction ds with
          | nil => intro _; exact ⟨[], rfl⟩
          | cons d ds ih =>
            intro hk
            rw [List.all_cons, Bool.and_eq_true] at hk
            obtain ⟨r, rfl⟩ := ih hk.2
            cases d with
            | int i => exact ⟨i :: r, rfl⟩
            | _ => cases hk.1
        obtain ⟨r, rfl⟩ := key ds k1
        refine ⟨r, rfl, ?_⟩
        rw [List.length_map] at k0
        omega
      · cases hd
    have all : ∀ rows : List PyData, rows.all (isRowD (n : Int)) = true → ∃ rs : List (List Int), rows = rs.map rowD ∧ ∀ r ∈ rs, r.length = n := by
      intro rows
      induction rows with
      | nil => intro _; exact ⟨[], rfl, fun r hr => by cases hr⟩
      | cons d ds ih =>
        intro hk
        rw [List.all_cons, Bool.and_eq_true] at hk
        obtain ⟨rs, rfl, hrs⟩ := ih hk.2
        obtain ⟨r, rfl, hr⟩ := row d hk.1
        refine ⟨r :: rs, rfl, fun x hx => ?_⟩
        rcases List.mem_cons.mp hx with rfl | hx
        · exact hr
        · exact hrs x hx
    obtain ⟨rs, rfl, hrs⟩ := all rows h1
    exact ⟨n, rs, rfl, hrs⟩
  · cases h
theorem unit_of_tab {d : PyData} (h : isTabD d = false) : isUnitD d = false := by
  unfold isUnitD
  split
  · rw [h]
    rfl
  · rfl
theorem tab_of {n : Nat} {rs : List (List Int)} (h : ∀ r ∈ rs, r.length = n) : isTabD (tabD n rs) = true := by
  unfold tabD rowsD
  simp only [isTabD, Bool.and_eq_true, decide_eq_true_eq, List.all_map, List.all_eq_true]
  refine ⟨by omega, fun r hr => ?_⟩
  simp only [Function.comp, rowD, isRowD, Bool.and_eq_true, decide_eq_true_eq, List.length_map, List.all_map, List.all_eq_true]
  refine ⟨by have := h r hr; omega, fun i _ => rfl⟩
end Gd
namespace Gd
open PySem PySem.Spec PyProof.Rows L2
section
variable {K : PySem.W.Frag} {H : Hp} {a : Addr} {ds : List PyData} {Q : VK} {x : V}
theorem sl_to {i : Nat} {z : Int} (hz : z = (i : Int)) (na : H a ≠ none) (hx : Dq K a H x (.tuple ds)) (k : ∀ v H', Same H H' → Dq K a H' v (.tuple (ds.take i)) → Q v H') : rSlA K x none (some z) H Q := by
  subst hz
  refine sl_dq na hx (i := 0) (j := min i ds.length) rfl (HT.sIx_nat _ _ _) fun v H' e h => k v H' e ?_
  have : (ds.drop 0).take (min i ds.length - 0) = ds.take i := by
    rw [List.drop_zero, Nat.sub_zero]
    by_cases hi : i ≤ ds.length
    · rw [Nat.min_eq_left hi]
    · rw [Nat.min_eq_right (by omega), List.take_length, List.take_of_length_le (by omega)]
  rw [this] at h
  exact h
theorem sl_from {i : Nat} {z : Int} (hz : z = (i : Int)) (na : H a ≠ none) (hx : Dq K a H x (.tuple ds)) (k : ∀ v H', Same H H' → Dq K a H' v (.tuple (ds.drop i)) → Q v H') : rSlA K x (some z) none H Q := by
  subst hz
  refine sl_dq na hx (i := min i ds.length) (j := ds.length) (HT.sIx_nat _ _ _) rfl fun v H' e h => k v H' e ?_
  have : (ds.drop (min i ds.length)).take (ds.length - min i ds.length) = ds.drop i := by
    rw [List.take_of_length_le (by rw [List.length_drop]; omega)]
    by_cases hi : i ≤ ds.length
    · rw [Nat.min_eq_left hi]
    · rw [Nat.min_eq_right (by omega), List.drop_length, List.drop_of_length_le (by omega)]
  rw [this] at h
  exact h
end
theorem fz_split : ∀ {ds : List PyData} {i : Nat} {x : PyData}, ds[i]? = some x → fzAll ds = fzAll (ds.take i) + fz x + fzAll (ds.drop (i + 1))
  | [], i, x, h => by simp at h
  | d :: ds, 0, x, h => by
    simp at h
    subst h
    simp [fzAll]
  | d :: ds, i + 1, x, h => by
    have := fz_split (ds := ds) (i := i) (x := x) (by simpa using h)
    simp only [List.take_succ_cons, List.drop_succ_cons, fzAll]
    omega
theorem fz_take (ds : List PyData) (i : Nat) : fzAll (ds.take i) + fzAll (ds.drop i) = fzAll ds := by
  rw [← fzAll_app, List.take_append_drop]
theorem fz_drop1 (ds : List PyData) (i : Nat) : fzAll (ds.drop (i + 1)) ≤ fzAll (ds.drop i) := by
  have := fz_take (ds.drop i) 1
  rw [List.drop_drop] at this
  have e : i + 1 = 1 + i := by omega
  first
    | omega
    | (rw [e]; omega)
theorem fz_rev : ∀ ds : List PyData, fzAll ds.reverse = fzAll ds
  | [] => rfl
  | d :: ds => by
    rw [List.reverse_cons, fzAll_app, fz_rev ds]
    simp only [fzAll]
    omega
theorem eqv_nilT (ds : List PyData) : PyData.eqv (.tuple ds) (.tuple []) = decide (ds = []) := by
  cases ds <;> simp [PyData.eqv, PyData.eqvAll]
end Gd
namespace Gd
open PySem PySem.Spec PyProof.Rows L2
theorem Same.nn {H H' : Hp} {a : Addr} (e : Same H H') (h : H a ≠ none) : H' a ≠ none := by
  cases q : H a with
  | none => exact absurd q h
  | some o =>
    rw [e a o q]
    exact Option.some_ne_none _
section
variable {X : Cx} {k : Nat} {ps : List Str} {sp : Sp} {x : Str} {p pos : Pos}
theorem pe_has0 (F : Has X.prog X.w X.K X.mg X.base x k ps sp) (hr : Room k X.A) (hg : Gl X x) (hdb : (x == ("__debug__" : Str)) = false := by decide) :
    PE X (.Call (.Name x p) [] [] pos) (tCall sp [] E0 tNil) := by
  obtain ⟨f, fd, G, hm, kp, hb⟩ := F
  exact pe_call0 G hr hg hm kp hb .nil pass0 hdb
end
section
variable {K : PySem.W.Frag} {te : TE} {tt : TT} {vs : List Nat} {σ : L2.St} {H : Hp} {D : Addr} {Qd : Hp → Prop}
/-- [truth for x in t], t a tuple -/
theorem lctB {j : Nat} {a : Addr} {xs : List V} (hD : H D = none) (hx : SqT K H a xs) (hn : xs.length ≤ 50000)
    (hw : ∀ x, wipe ((wipe σ vs).set j (some x)) vs = wipe σ vs)
    (hs : ∀ (i : Nat) (x : V) (H1 : Hp) (Q : VK), xs[i]? = some x → Same H H1 → (∀ b H2, Same H1 H2 → Q (.bl b) H2) → te ((wipe σ vs).set j (some x)) H1 Q)
    (hd : ∀ H' (bs : List Bool), Same H H' → H' D = some (.lst (bs.map V.bl)) → Qd H') :
    ∃ W : Nat → Nat → Hp → Prop, (∃ m, W 0 m (upd H D (.lst []))) ∧ ∀ i m H, W i m H →
      ((Itt K a).stop i H ∧ Qd H) ∨ ((Itt K a).go i H ∧ ∃ Nx : Hp → Prop,
        (∀ H', Nx H' → ∃ m', m' < m ∧ W (i + 1) m' H') ∧
        ∀ x H', (Itt K a).yld i H x H' → gName j x (wipe σ vs) H' fun σ2 H2 =>
          wipe σ2 vs = wipe σ vs ∧ tYes σ2 H2 fun b H3 =>
            if b = true then te σ2 H3 fun y H4 => ∃ acc, H4 D = some (.lst acc) ∧
              acc.length < sizeLine ∧ Nx (upd H4 D (.lst (acc ++ [y]))) else Nx H3) := by
  refine lc_tup (xs := xs) (fun i H' => Same H H' ∧ ∃ bs : List Bool, bs.length = i ∧ H' D = some (.lst (bs.map V.bl))) ⟨Same.new hD, [], rfl, upd_same⟩ (fun i H' _ q => sqt_same q.1 hx) ?_ ?_
  · rintro i x H' hi ⟨e, bs, hb, h1⟩
    have hlt := (List.getElem?_eq_some_iff.mp hi).1
    refine ⟨hw _, ?_⟩
    unfold tYes
    dsimp only
    rw [if_pos rfl]
    refine hs i x H' _ hi e fun b H2 e2 => ?_
    refine ⟨_, e2 _ _ h1, ?_, Same.mut (e.trans e2) hD, bs ++ [b], ?_, ?_⟩
    · rw [List.length_map, hb]
      exact Nat.lt_of_lt_of_le (show i < 50000 by omega) (by decide)
    · rw [List.length_append, hb]
      rfl
    · rw [upd_same, List.map_append]
      rfl
  · rintro H' ⟨e, bs, _, h1⟩
    exact hd H' bs e h1
/-- [True for x in l if c], l a list that stays -/
theorem lclT {j : Nat} {a : Addr} {xs : List V} (hD : H D = none) (hx : SqL K H a xs) (hn : xs.length ≤ 50000)
    (hw : ∀ x, wipe ((wipe σ vs).set j (some x)) vs = wipe σ vs)
    (ht : ∀ (i : Nat) (x : V) (H1 : Hp) (R : Bool → Hp → Prop), xs[i]? = some x → Same H H1 → (∀ b H2, Same H1 H2 → R b H2) → tt ((wipe σ vs).set j (some x)) H1 R)
    (hs : ∀ (i : Nat) (x : V) (H1 : Hp) (Q : VK), xs[i]? = some x → Same H H1 → (∀ H2, Same H1 H2 → Q (.bl true) H2) → te ((wipe σ vs).set j (some x)) H1 Q)
    (hd : ∀ H' (n : Nat), Same H H' → H' D = some (.lst ((List.replicate n true).map V.bl)) → Qd H') :
    ∃ W : Nat → Nat → Hp → Prop, (∃ m, W 0 m (upd H D (.lst []))) ∧ ∀ i m H, W i m H →
      ((Itl K a).stop i H ∧ Qd H) ∨ ((Itl K a).go i H ∧ ∃ Nx : Hp → Prop,
        (∀ H', Nx H' → ∃ m', m' < m ∧ W (i + 1) m' H') ∧
        ∀ x H', (Itl K a).yld i H x H' → gName j x (wipe σ vs) H' fun σ2 H2 =>
          wipe σ2 vs = wipe σ vs ∧ tt σ2 H2 fun b H3 =>
            if b = true then te σ2 H3 fun y H4 => ∃ acc, H4 D = some (.lst acc) ∧
              acc.length < sizeLine ∧ Nx (upd H4 D (.lst (acc ++ [y]))) else Nx H3) := by
  refine lc_list (xs := xs) (fun i H' => Same H H' ∧ ∃ n : Nat, n ≤ i ∧ H' D = some (.lst ((List.replicate n true).map V.bl))) ⟨Same.new hD, 0, Nat.le_refl _, upd_same⟩ (fun i H' _ q => sql_same q.1 hx) ?_ ?_
  · rintro i x H' hi ⟨e, n, hb, h1⟩
    have hlt := (List.getElem?_eq_some_iff.mp hi).1
    refine ⟨hw _, ht i x H' _ hi e fun b H2 e2 => ?_⟩
    cases b with
    | false => exact iteF ⟨e.trans e2, n, by omega, e2 _ _ h1⟩
    | true =>
      refine iteT (hs i x H2 _ hi (e.trans e2) fun H3 e3 => ?_)
      refine ⟨_, (e2.trans e3) _ _ h1, ?_, Same.mut ((e.trans e2).trans e3) hD, n + 1, by omega, ?_⟩
      · rw [List.length_map, List.length_replicate]
        exact Nat.lt_of_lt_of_le (show n < 50000 by omega) (by decide)
      · rw [upd_same, List.replicate_succ', List.map_append]
        rfl
  · rintro H' ⟨e, n, _, h1⟩
    exact hd H' n e h1
/-- [True for k in range(m)], where each draws -/
theorem lcrT {j m n c : Nat} {a s : Addr} (hD : H D = none) (hf : Fd H a s n) (hm : m ≤ 50000)
    (hw : ∀ x, wipe ((wipe σ vs).set j (some x)) vs = wipe σ vs)
    (hs : ∀ (i : Nat) (H1 : Hp) (Q : VK), i < m → Sb a H H1 → Fd H1 a s (n + c * i) →
      (∀ (H2 : Hp), Sb a H1 H2 → Fd H2 a s (n + c * (i + 1)) → Q (.bl true) H2) →
      te ((wipe σ vs).set j (some (.int (0 + (i : Int))))) H1 Q)
    (hd : ∀ (H' : Hp), Sb a H H' → Fd H' a s (n + c * m) → H' D = some (.lst ((List.replicate m true).map V.bl)) → Qd H') :
    ∃ W : Nat → Nat → Hp → Prop, (∃ m, W 0 m (upd H D (.lst []))) ∧ ∀ i k H, W i k H →
      ((Itr 0 m).stop i H ∧ Qd H) ∨ ((Itr 0 m).go i H ∧ ∃ Nx : Hp → Prop,
        (∀ H', Nx H' → ∃ k', k' < k ∧ W (i + 1) k' H') ∧
        ∀ x H', (Itr 0 m).yld i H x H' → gName j x (wipe σ vs) H' fun σ2 H2 =>
          wipe σ2 vs = wipe σ vs ∧ tYes σ2 H2 fun b H3 =>
            if b = true then te σ2 H3 fun y H4 => ∃ acc, H4 D = some (.lst acc) ∧
              acc.length < sizeLine ∧ Nx (upd H4 D (.lst (acc ++ [y]))) else Nx H3) := by
  obtain ⟨dA, dS⟩ := hf.apart hD
  refine lc_range (lo := 0) (n := m) (fun i H' => Sb a H H' ∧ Fd H' a s (n + c * i) ∧ H' D = some (.lst ((List.replicate i true).map V.bl))) ?_ ?_ ?_
  · exact ⟨Sb.new hD, (hf.upd dA dS).mono (by omega), upd_same⟩
  · rintro i H' hi ⟨sb, f, h1⟩
    refine ⟨hw _, ?_⟩
    unfold tYes
    dsimp only
    rw [if_pos rfl]
    refine hs i H' _ hi sb f fun H2 sb2 f2 => ?_
    refine ⟨_, sb2 _ _ dA h1, ?_, (Sb.trans sb sb2).mut hD, f2.upd dA dS, ?_⟩
    · rw [List.length_map, List.length_replicate]
      exact Nat.lt_of_lt_of_le (show i < 50000 by omega) (by decide)
    · rw [upd_same, List.replicate_succ', List.map_append]
      rfl
  · rintro H' ⟨sb, f, h1⟩
    exact hd H' sb f h1
end
end Gd
namespace Gd
open PySem PySem.Spec PyProof.Rows L2
section
variable {X : Cx} {K : PySem.W.Frag}
/-- repr of data of any kind -/
def rReprD (K : PySem.W.Frag) : List V → Hp → VK → Prop := fun vs H Q =>
  ∃ (v : V) (d : PyData), vs = [v] ∧ Dp K H v d ∧ d.showable = true ∧ d.hasDict = false ∧ d.depth ≤ 60 ∧ d.shown.length ≤ sizeLine ∧ Q (.str d.shown) H
theorem call_reprD (hG : X.A.guards = some []) (hu : X.A.units + 64 < cLine) : CallR X (.builtin "repr") (rReprD X.K) := by
  intro pins s σ H xs us Q I r h
  obtain ⟨v, d, rfl, hd, hs, hn, hdp, hz, q⟩ := h
  have refs : ∀ a : Addr, v = .ref a → wpAny (model X.prog X.w) X.A (call (.builtin "repr") us) (EP X pins σ Q) X.xe s := by
    intro a ha
    subst ha
    exact call_repr hG hu pins s σ H [.ref a] us Q I r ⟨a, d, rfl, hd, hs, hn, hdp, hz, q⟩
  cases hd with
  | lst _ _ => exact refs _ rfl
  | tup _ _ => exact refs _ rfl
  | non =>
    obtain ⟨u, rfl, hu1⟩ := vals1 r
    cases (show u = Value.none from hu1)
    exact PySem.P.repr_of_none ⟨.str "None", H, I.tok _, ⟨_, rfl⟩, by simpa only [PyData.shown] using q⟩
  | bl b =>
    obtain ⟨u, rfl, hu1⟩ := vals1 r
    cases (show u = Value.bool b from hu1)
    exact PySem.P.repr_of_bool ⟨.str (if b then "True" else "False"), H, I.tok _, ⟨_, rfl⟩, by simpa only [PyData.shown] using q⟩
  | int i =>
    obtain ⟨u, rfl, t, rfl⟩ := vals1 r
    simp only [PyData.showable, decide_eq_true_eq] at hs
    exact PySem.P.repr_of_int hs ⟨.str (toString i), H, I.tok _, ⟨_, rfl⟩, by simpa only [PyData.shown] using q⟩
  | str x =>
    obtain ⟨u, rfl, t, rfl⟩ := vals1 r
    refine PySem.P.repr_of_str ⟨.str (reprText x), H, I.tok _, ⟨_, rfl⟩, by simpa only [PyData.shown] using q⟩ ?_
    simpa only [PyData.shown] using hz
theorem call_reprDK (hK : X.K = K) (hG : X.A.guards = some []) (hu : X.A.units + 64 < cLine) : CallR X (.builtin "repr") (rReprD K) := by
  subst hK; exact call_reprD hG hu
end
theorem reprD {K : PySem.W.Frag} {H : Hp} {v : V} {d : PyData} {k n : Nat} {Q : VK} {S : Str} (hd : Dp K H v d) (hs : Sh k n d) (hk : k ≤ 60) (hn : n ≤ 16000000) (e : d.shown = S) (q : Q (.str S) H) : rReprD K [v] H Q := by
  subst e
  exact ⟨v, d, rfl, hd, hs.1, hs.2.1, Nat.le_trans hs.2.2.1 hk, Nat.le_trans hs.2.2.2 (Nat.le_trans hn (by decide)), q⟩
theorem tk_hid {H : Hp} {a : Addr} {xs : List V} (h : H a = some (.lst xs)) : Tk H (hid a H) := fun b o no hb => by
  unfold hid
  rw [if_neg ?_]
  · exact hb
  · rintro rfl
    rw [h] at hb
    cases hb
    exact no _ rfl
theorem Dp.q {K : PySem.W.Frag} {H : Hp} {a s : Addr} {n : Nat} {v : V} {d : PyData} (f : Fd H a s n) (ht : tupOnly d = true) (h : Dp K H v d) : Dq K a H v d := by
  obtain ⟨xs, hx⟩ := f.at
  exact Dp.tk (tk_hid hx) _ _ ht h
theorem dpa_rep {K : PySem.W.Frag} {H : Hp} {v : V} {d : PyData} (h : Dp K H v d) : ∀ n : Nat, DpAll K H (List.replicate n v) (List.replicate n d)
  | 0 => .nil
  | n + 1 => .cons h (dpa_rep h n)
theorem flat_rep {v : V} : ∀ n : Nat, (List.replicate n [v]).flatten = List.replicate n v
  | 0 => rfl
  | n + 1 => by rw [List.replicate_succ, List.replicate_succ, List.flatten_cons, flat_rep n]; rfl
/-- (x,) * n -/
theorem rep1_dp {K : PySem.W.Frag} {H : Hp} {x v : V} {d : PyData} {p : Addr} {k : Int} {Q : VK} (hx : SqT K H p [v]) (hv : Dp K H v d) (h1 : -1000 ≤ k) (h2 : k ≤ 1000)
    (q : ∀ u H', Same H H' → Dp K H' u (.tuple (List.replicate k.toNat d)) → Q u H') : rRepA K (.ref p) (.int k) H Q := by
  refine ⟨p, k, _, rfl, rfl, hx, (by simp), h1, h2, (by simp), ?_⟩
  intro p2 H2 e h
  rw [flat_rep] at h
  exact q _ _ e (.tup h (dpa_rep (Dp.same e _ _ hv) _))
end Gd
namespace Gd
open PySem PySem.Spec PyProof.Rows L2
/-! ### dicts with tuples as keys: a comprehension, a display of one -/
/-- a key and its value come into a dict that a comprehension or a display makes -/
theorem put_tup {X : Cx} {pins : List (Addr × Obj)} {σ : L2.St} {H : Hp} {s : Shared} {A : Around} {E : Value → Shared → Prop} {D b : Addr} {kvs : List (List L2.Key × V)} {k : List L2.Key} {v : V} {u r : Value}
    {Q : Unit → Shared → Prop} (room : A.units < cLine) (I : Inv X pins σ H s) (hD : H D = some (.dT kvs)) (fits : kvs.length < sizeLine) (hb : H b = some (.tup (k.map kV)))
    (ru : RelV (.ref b) u) (rv : RelV v r) (go : ∀ s', Inv X pins σ (upd H D (.dT (putK kvs k v))) s' → Q () s') : wpAny (model X.prog X.w) A (dictSet D u r) Q E s := by
  have hu : u = Value.ref b := ru
  subst hu
  obtain ⟨z, hne, es, rel, dd⟩ := dt_of I.hok hD
  have len := Paired.length rel
  have more := length_putK kvs k v
  refine wpAny_dictSet_heap (knd := tupleKind (mixKind X.prog X.w)) (hsz := by omega) room (key_of I.hok hb) dd fun h' dd' sb => go _ ?_
  obtain ⟨q, xs, ep, g1, g2, g3, g4, _, g5⟩ := dd'
  have keep : ∀ c ys, H c = some (.tup ys) → upd H D (.dT (putK kvs k v)) c = some (.tup ys) := fun c ys hc => by
    rw [upd_ne (ne_of hc hD (fun e => nomatch e))]
    exact hc
  exact d_write I (by rw [hD]; trivial) sb ⟨q, g1⟩ ⟨by omega, hne, _, (rel.put k hb rv).keeps keep, q, xs, ep, g1, g2, g3, g4, g5⟩
section
variable {X : Cx}
/-- {k: v for target in iter if ..}, the keys tuples of numbers and texts -/
def tDcT (wi : TI) (g : TG) (tt : TT) (tk tv : TE) (own : List Nat) : TE := fun σ H Q => wi σ H fun J H1 => ∀ D, H1 D = none →
  ∃ W : Nat → Nat → Hp → Prop, (∃ m, W 0 m (upd H1 D (.dT []))) ∧ ∀ i m H, W i m H → (J.stop i H ∧ Q (.ref D) H) ∨
    (J.go i H ∧ ∃ Nx : Hp → Prop, (∀ H', Nx H' → ∃ m', m' < m ∧ W (i + 1) m' H') ∧
      ∀ x H', J.yld i H x H' → g x (wipe σ own) H' fun σ2 H2 => wipe σ2 own = wipe σ own ∧ tt σ2 H2 fun yes H3 =>
        if yes = true then tk σ2 H3 fun y H4 => tv σ2 H4 fun z H5 => ∃ kvs k b, y = .ref b ∧ H5 b = some (.tup (k.map kV)) ∧ H5 D = some (.dT kvs) ∧ kvs.length < sizeLine ∧ Nx (upd H5 D (.dT (putK kvs k z)))
        else Nx H3)
theorem pe_dcT {kx vx tg iter : Expr} {ifs : List Expr} {scope : Scope} {own : List (Str × Nat)} {pos : Pos} {wi : TI} {g : TG} {tt : TT} {tk tv : TE} (room : X.A.units < cLine) (calm : X.calm = true) (nd : X.N.Nodup)
    (hi : PI X tg iter wi) (ok : BlkOk X.N X.env.scope scope own)
    (hg : ∀ s H C cl fp, PG (X.blk s H scope (compEnvC scope cl C X.env) fp) tg g) (ht : ∀ s H C cl fp, PTs (X.blk s H scope (compEnvC scope cl C X.env) fp) ifs tt)
    (hk : ∀ s H C cl fp, PE (X.blk s H scope (compEnvC scope cl C X.env) fp) kx tk) (he : ∀ s H C cl fp, PE (X.blk s H scope (compEnvC scope cl C X.env) fp) vx tv)
    (fold : ∀ x, foldedSetIterable iter X.env x = pure x := by intro _; rfl) : PE X (.DictComp kx vx [⟨tg, iter, ifs, 0⟩] scope pos) (tDcT wi g tt tk tv (own.map (·.2))) := by
  refine ⟨fun pins s σ H Q I want => ?_⟩
  rw [arm_eval_DictComp]
  have cells : closureFor scope X.env = pure (cloFrom X.env.cells scope.names []) := closure_ok fun y hy e => (ok.free y hy e).elim (fun q => I.ok.has _ (.inl q)) (fun q => I.ok.has _ (.inr q))
  refine wpAny_comprehension_free rfl fold cells ok.kind (fun y hy e => by rw [ok.uniq y hy, e]) (thn (hi.run pins s σ H _ I want) fun xv s1 hx => thn hx fun itv s2 hit => ?_)
  obtain ⟨it, fp, tn, J, H2, rfl, I2, T, st2, f2, rest⟩ := hit
  refine wpAny_newObj_type (newEnv_comp ?_)
  obtain ⟨D, hD⟩ : ∃ D, s2.heap.objs.size = D := ⟨_, rfl⟩
  rw [hD]
  have new : H2 D = none := I2.hok.fresh (Nat.le_of_eq hD)
  obtain ⟨W, ⟨m0, w0⟩, turn⟩ := rest D new
  have small : ∀ b ∈ fp, b < s2.heap.objs.size := fun b hb => let ⟨_, e, _⟩ := T.obj _ _ st2 b hb; Heap.lt_size e
  -- the state with the new dict
  obtain ⟨s3, hs3⟩ : ∃ s3 : Shared, s3 = { s2 with heap := s2.heap.push { cls := .type "dict", data := .dict #[] } } := ⟨_, rfl⟩
  have up3 : s3.heap = s2.heap.push { cls := .type "dict", data := .dict #[] } := by rw [hs3]
  obtain ⟨H3, hH3⟩ : ∃ H3, H3 = upd H2 D (.dT []) := ⟨_, rfl⟩
  have I3 : Inv X pins σ H3 s3 := by
    rw [hs3, hH3]
    refine I2.laid (t' := s2.toks) (fun b o e => Heap.get?_push_of_some _ e) (Nat.le_of_eq hD) ?_
    rw [← hD]
    exact dt_empty s2.heap I2.big
  have f3 : ∀ b ∈ fp, FpOk X pins H3 b ∧ b < s3.heap.objs.size := fun b hb => by
    have lt := small b hb
    have off : H3 b = H2 b := by rw [hH3, upd_ne (Nat.ne_of_lt (hD ▸ lt))]
    exact ⟨⟨by rw [off]; exact (f2 b hb).1, (f2 b hb).2⟩, by rw [up3, Heap.size_push]; exact Nat.lt_succ_of_lt lt⟩
  have st3 : tn 0 s3.heap := T.keep _ _ _ st2 fun b _ o e => by rw [up3]; exact Heap.get?_push_of_some _ e
  have off3 : ∀ b ∈ fp, H3 b = none := fun b hb => (f3 b hb).1.1
  rw [← hH3] at w0
  -- the block
  have I4 := block_start I3 ok nd f3
  obtain ⟨ce, hce⟩ : ∃ ce, compEnvC scope (cellsFrom (s3.heap.objs.size + 1) scope.names (cloFrom X.env.cells scope.names [])) s3.heap.objs.size X.env = ce := ⟨_, rfl⟩
  have pg := hg s3 H3 s3.heap.objs.size (cellsFrom (s3.heap.objs.size + 1) scope.names (cloFrom X.env.cells scope.names [])) fp
  have pt := ht s3 H3 s3.heap.objs.size (cellsFrom (s3.heap.objs.size + 1) scope.names (cloFrom X.env.cells scope.names [])) fp
  have pk := hk s3 H3 s3.heap.objs.size (cellsFrom (s3.heap.objs.size + 1) scope.names (cloFrom X.env.cells scope.names [])) fp
  have pv := he s3 H3 s3.heap.objs.size (cellsFrom (s3.heap.objs.size + 1) scope.names (cloFrom X.env.cells scope.names [])) fp
  rw [hce] at I4 pg pt pk pv
  have loc : ce.locals = s3.heap.objs.size := by rw [← hce]; rfl
  obtain ⟨s4, hs4⟩ : ∃ s4 : Shared, { s3 with heap := pushCells (s3.heap.push { cls := .type "dict", data := .dict #[] }) scope.names } = s4 := ⟨_, rfl⟩
  rw [hs4] at I4
  have st4 : tn 0 s4.heap := T.keep _ _ _ st3 fun b _ o e => by rw [← hs4]; exact pushCells_keeps _ _ _ _ (Heap.get?_push_of_some _ e)
  obtain ⟨R, hR⟩ : ∃ R : Result → Shared → Prop, R = compPost (model X.prog X.w) X.A X.xe none (EP X pins σ Q) (.ref D) s3.heap.objs.size := ⟨_, rfl⟩
  have free : ∀ {σ' : L2.St} {H' : Hp} {s' : Shared}, Inv (X.blk s3 H3 scope ce fp) [] σ' H' s' → (∀ b ∈ fp, H' b = none) → ∀ b ∈ fp, FpOk (X.blk s3 H3 scope ce fp) [] H' b := fun J' off b hb =>
    ⟨off b hb, (J'.ok.exf b hb).1, J'.ok.exfs b hb, .inl hb, (J'.ok.exf b hb).2, fun p hp => absurd (show p ∈ ([] : List (Addr × Obj)) ++ [] from hp) (by simp)⟩
  have loop : codeAny (model X.prog X.w) X.A (.compLoop (.DictComp kx vx [⟨tg, iter, ifs, 0⟩] scope pos) 0 (.ref it) (.ref D) ce) R s4 := by
    refine compLoop_anyD (fun n s' => ∃ i H', Inv (X.blk s3 H3 scope ce fp) [] (wipe σ (own.map (·.2))) H' s' ∧ tn i s'.heap ∧ (∀ b ∈ fp, H' b = none) ∧ W i n H') ?_ m0 ⟨0, H3, I4, st4, off3, w0⟩
    rintro n s5 ⟨i, H5, I5, st5, off5, w5⟩
    rcases turn i n H5 w5 with ⟨halt, told⟩ | ⟨more, Nx, hNx, step⟩
    · refine thnF (T.done (X.blk s3 H3 scope ce fp) rfl rfl rfl calm i [] s5 _ H5 (fun _ _ => False) I5 (free I5 off5) st5 halt) fun r s6 hr => ?_
      obtain ⟨rfl, I6⟩ := hr
      have back : Inv X pins σ H5 s6 := I3.call' (ch := fp) I6.os I6.base I6.hok I6.bare fun b hb => let z := (f3 b hb).1; ⟨z.2.2.2.1, z.2.1, z.2.2.2.2.1, z.2.2.2.2.2⟩
      have fr : H5 s3.heap.objs.size = none := loc ▸ (I6.free : H5 ce.locals = none)
      obtain ⟨m, ns, _⟩ := I6.loc
      have ns : s6.heap.Ns s3.heap.objs.size m := loc ▸ (ns : s6.heap.Ns ce.locals m)
      obtain ⟨z0, z1, z2, z3, z4, z5⟩ := I3.fpOk (Nat.le_refl _) fr
      rw [hR]
      exact ⟨m, ns, fun h' sb => ⟨.ref D, H5, back.turned (t' := s6.toks) (fun b o hb e => (sb.2 b hb).trans e) z0 z1 z3 z4 z5, rfl, told⟩⟩
    · refine thnF (T.item (X.blk s3 H3 scope ce fp) rfl rfl rfl calm i [] s5 _ H5 (fun _ _ => False) I5 (free I5 off5) st5 more) fun r s6 hr => ?_
      obtain ⟨u, rfl, h6⟩ := hr
      refine thnF h6 fun _ s7 h7 => ?_
      obtain ⟨x, H7, I7, r7, y7, st7, off7⟩ := h7
      have pin := I7.pinned (free I7 off7) (T.obj _ _ st7)
      refine thnF (pg.run _ s7 _ H7 x u _ pin r7 (step x H7 y7)) fun _ s8 h8 => ?_
      obtain ⟨σ8, H8, I8, hw8, q8⟩ := h8
      have last : ∀ {s' : Shared} {H' : Hp}, Inv (X.blk s3 H3 scope ce fp) ([] ++ pinsAt fp s7.heap) σ8 H' s' → Nx H' →
          ∃ m, m < n ∧ ∃ i H', Inv (X.blk s3 H3 scope ce fp) [] (wipe σ (own.map (·.2))) H' s' ∧ tn i s'.heap ∧ (∀ b ∈ fp, H' b = none) ∧ W i m H' := fun {s' H'} J' nx => by
        obtain ⟨m', lt, w'⟩ := hNx H' nx
        have stay : ∀ b ∈ fp, ∀ o, s7.heap.get? b = some o → s'.heap.get? b = some o ∧ H' b = none := fun b hb o e =>
          have z := J'.pin (b, o) (List.mem_append_right _ (List.mem_append_right _ (mem_pinsAt hb e)))
          ⟨z.1, z.2.1⟩
        refine ⟨m', lt, i + 1, H', (J'.unpinned (pins := [])).weak (by rw [← hw8, wipe_length]) (fun j v e => (wipe_some (by rw [hw8]; exact e)).1), T.keep _ _ _ st7 fun b hb o e => (stay b hb o e).1, fun b hb => ?_, w'⟩
        obtain ⟨o, e, _⟩ := T.obj _ _ st7 b hb
        exact (stay b hb o e).2
      refine thnF (pt.run _ s8 σ8 H8 _ I8 q8) fun yes s9 h9 => ?_
      obtain ⟨H9, I9, q9⟩ := h9
      cases yes with
      | false =>
        rw [if_neg (by decide)] at q9 ⊢
        exact last I9 q9
      | true =>
        rw [if_pos rfl] at q9 ⊢
        refine thnF (pk.run _ s9 σ8 H9 _ I9 q9) fun z1 s10 h10 => ?_
        obtain ⟨yk, H10, I10, r10, q10⟩ := h10
        refine thnF (pv.run _ s10 σ8 H10 _ I10 q10) fun z2 s11 h11 => ?_
        obtain ⟨yv, H11, I11, r11, kvs, k, b, rfl, hb, hD11, fits, nx⟩ := h11
        exact put_tup (X := X.blk s3 H3 scope ce fp) room I11 hD11 fits hb r10 r11 fun s12 I12 => last I12 nx
  have start := codeAny_compStart_dict loop (T.self X.A 0 _ _ _ st4 loop)
  rw [hR, ← hs4, ← hce] at start
  subst hs3
  exact start
/-- {k: v}, k a tuple -/
def tDisp1T (tk tv : TE) : TE := fun σ H Q => ∀ p, H p = none → tPairs [(tk, tv)] σ (upd H p (.dT [])) fun ps H2 => ∃ k b z, ps = [(V.ref b, z)] ∧ H2 b = some (.tup (k.map kV)) ∧ H2 p = some (.dT []) ∧ Q (.ref p) (upd H2 p (.dT [(k, z)]))
theorem pe_disp1T {pos : Pos} {kx vx : Expr} {tk tv : TE} (room : X.A.units < cLine) (hk : PE X kx tk) (hv : PE X vx tv) : PE X (.Dict [some kx] [vx] pos) (tDisp1T tk tv) := by
  refine ⟨fun pins s σ H Q I want => ?_⟩
  have new := I.hok.fresh (Nat.le_refl s.heap.objs.size)
  have I1 := I.laid (a := s.heap.objs.size) (o := .dT []) (h' := s.heap.push { cls := .type "dict", data := .dict #[] }) (t' := s.toks) (fun _ _ q => Heap.get?_push_of_some _ q) (Nat.le_refl _) (dt_empty s.heap I.big)
  have pairs : PPs X pos [some kx] [vx] [(tk, tv)] := pps_cons hk hv pps_nil
  refine wpAny_Dict_any rfl rfl (by simp) (by simp) (thn (pairs.run pins _ σ _ _ I1 (want s.heap.objs.size new)) fun vs s2 h2 => ?_)
  obtain ⟨ps, H2, I2, rel, k, b, z, rfl, hb, hD, q⟩ := h2
  cases rel with
  | cons r1 r2 =>
    cases r2
    rename_i w
    unfold storeAll
    rw [List.forIn_cons]
    refine wpAny_bind (wpAny_bind (put_tup room I2 hD (by decide) hb r1.1 r1.2 fun s3 I3 => wpAny_pure ?_))
    dsimp only
    rw [List.forIn_nil]
    exact wpAny_pure ⟨.ref s.heap.objs.size, _, I3, rfl, q⟩
end
end Gd
namespace Gd
open PySem PySem.Spec PyProof.Rows L2
/-! ### tuples of row numbers, own ones, as keys -/
def nV (c : List Nat) : List V := c.map fun (n : Nat) => V.int (n : Int)
def kc (c : List Nat) : List L2.Key := c.map fun (n : Nat) => Sum.inl (n : Int)
theorem kc_map (c : List Nat) : (kc c).map kV = nV c := by
  unfold kc nV
  rw [List.map_map]
  rfl
theorem kc_inj : ∀ {c d : List Nat}, kc c = kc d → c = d
  | [], [], _ => rfl
  | [], _ :: _, h => by simp [kc] at h
  | _ :: _, [], h => by simp [kc] at h
  | a :: c, b :: d, h => by
    simp only [kc, List.map_cons, List.cons.injEq, Sum.inl.injEq] at h
    have e1 : a = b := by omega
    have e2 : c = d := kc_inj h.2
    rw [e1, e2]
inductive Tts (H : Hp) : List V → List (List Nat) → Prop
  | nil : Tts H [] []
  | cons {b : Addr} {xs : List V} {c : List Nat} {cs : List (List Nat)} (h : H b = some (.tup (nV c))) (t : Tts H xs cs) : Tts H (.ref b :: xs) (c :: cs)
theorem Tts.tk {H H' : Hp} {xs : List V} {cs : List (List Nat)} (t : Tts H xs cs) (e : Tk H H') : Tts H' xs cs := by
  induction t with
  | nil => exact .nil
  | cons h _ ih => exact .cons (e _ _ (fun _ z => by cases z) h) ih
theorem Tts.len {H : Hp} {xs : List V} {cs : List (List Nat)} (t : Tts H xs cs) : xs.length = cs.length := by
  induction t with
  | nil => rfl
  | cons _ _ ih => simp [ih]
theorem Tts.get {H : Hp} {xs : List V} {cs : List (List Nat)} (t : Tts H xs cs) : ∀ {i : Nat} {x : V}, xs[i]? = some x → ∃ b c, x = .ref b ∧ cs[i]? = some c ∧ H b = some (.tup (nV c)) := by
  induction t with
  | nil => intro i x h; simp at h
  | @cons b xs c cs h _ ih =>
    intro i x hx
    cases i with
    | zero =>
      simp at hx
      subst hx
      exact ⟨b, c, rfl, rfl, h⟩
    | succ i => exact ih (by simpa using hx)
theorem Tts.snoc {H : Hp} {xs : List V} {cs : List (List Nat)} {b : Addr} {c : List Nat} (t : Tts H xs cs) (h : H b = some (.tup (nV c))) : Tts H (xs ++ [.ref b]) (cs ++ [c]) := by
  induction t with
  | nil => exact .cons h .nil
  | cons h' _ ih => exact .cons h' ih
/-! ### choices -/
def lastN (c : List Nat) : Nat := c.getD (c.length - 1) 0
def goN (size : Nat) (c : List Nat) (n : Nat) : Bool := decide (size = 0) || decide (lastN c < n)
def extM (many size : Nat) (c : List Nat) : List (List Nat) := ((List.range many).filter (goN size c)).map fun n => c ++ [n]
def choicesM (many : Nat) : Nat → List (List Nat)
  | 0 => [[]]
  | k + 1 => (choicesM many k).flatMap (extM many k)
theorem choices_mem {many : Nat} : ∀ {k : Nat} {c : List Nat}, c ∈ choicesM many k → c.length = k ∧ ∀ n ∈ c, n < many
  | 0, c, h => by
    simp [choicesM] at h
    subst h
    exact ⟨rfl, fun n hn => by cases hn⟩
  | k + 1, c, h => by
    obtain ⟨d, hd, hc⟩ := List.mem_flatMap.mp h
    obtain ⟨n, hn, rfl⟩ := List.mem_map.mp hc
    obtain ⟨h1, h2⟩ := choices_mem hd
    have hn := List.mem_range.mp (List.mem_filter.mp hn).1
    refine ⟨by rw [List.length_append, h1]; rfl, fun x hx => ?_⟩
    rcases List.mem_append.mp hx with h | h
    · exact h2 x h
    · rw [List.mem_singleton.mp h]
      exact hn
theorem ext_len (many size : Nat) (c : List Nat) : (extM many size c).length ≤ many := by
  unfold extM
  rw [List.length_map]
  have := List.length_filter_le (goN size c) (List.range many)
  rw [List.length_range] at this
  exact this
theorem flat_len {many size : Nat} : ∀ cs : List (List Nat), (cs.flatMap (extM many size)).length ≤ cs.length * many
  | [] => by simp
  | c :: cs => by
    have h1 := ext_len many size c
    have h2 := flat_len (many := many) (size := size) cs
    rw [List.flatMap_cons, List.length_append, List.length_cons, Nat.add_mul]
    omega
def er (c : List Nat) (p : Nat) : List Nat := c.take p ++ c.drop (p + 1)
theorem choice_facts : ∀ w < 8, ∀ k < 8, (choicesM w k).Nodup ∧ (choicesM w k).length ≤ 35 := by decide +kernel
theorem choice_erase0 : ∀ w < 8, ∀ k < 7, ∀ c ∈ choicesM w (k + 1), ∀ p < k + 1, er c p ∈ choicesM w k := by decide +kernel
theorem choice_full : ∀ w < 8, List.range w ∈ choicesM w w := by decide +kernel
/-! ### corners by the first row -/
def sgnT (p : Nat) (x : Int) : Int := if p % 2 = 0 then x else -x
def rowM (r : List Int) (c : List Nat) (f : List Nat → Int) (j : Nat) : Int := sumR j fun p => sgnT p (r.getD (c.getD p 0) 0 * f (er c p))
def detM : List (List Int) → List Nat → Int
  | [], _ => 1
  | r :: rs, c => rowM r c (detM rs) c.length
/-! ### a dict told by a list -/
theorem val_map {cs : List (List Nat)} {v : List Nat → V} {c : List Nat} (h : c ∈ cs) : valV (cs.map fun c => (kc c, v c)) (kc c) = some (v c) := by
  induction cs with
  | nil => cases h
  | cons d cs ih =>
    unfold valV
    rw [List.map_cons, List.find?_cons]
    by_cases e : d = c
    · subst e
      simp
    · have ne : decide (kc d = kc c) = false := decide_eq_false fun z => e (kc_inj z)
      simp only [ne]
      have hc : c ∈ cs := by
        rcases List.mem_cons.mp h with z | z
        · exact absurd z.symm e
        · exact z
      exact ih hc
theorem put_new {kvs : List (List L2.Key × V)} {k : List L2.Key} {v : V} (h : ∀ kv ∈ kvs, kv.1 ≠ k) : putK kvs k v = kvs ++ [(k, v)] := by
  unfold putK
  rw [if_neg]
  rw [List.any_eq_true]
  rintro ⟨kv, hkv, e⟩
  exact h kv hkv (of_decide_eq_true e)
end Gd
namespace Gd
open PySem PySem.Spec PyProof.Rows L2
/-! ### own tuples of numbers -/
theorem nV_app (c d : List Nat) : nV (c ++ d) = nV c ++ nV d := List.map_append ..
theorem nV_len (c : List Nat) : (nV c).length = c.length := List.length_map ..
theorem nV_take (c : List Nat) (i : Nat) : nV (c.take i) = (nV c).take i := by unfold nV; rw [List.map_take]
theorem nV_drop (c : List Nat) (i : Nat) : nV (c.drop i) = (nV c).drop i := by unfold nV; rw [List.map_drop]
theorem nV_nil {c : List Nat} (h : nV c = []) : c = [] := List.map_eq_nil_iff.mp h
theorem nV_get {c : List Nat} {i : Nat} (h : i < c.length) : (nV c)[i]? = some (.int (c.getD i 0 : Nat)) := by
  unfold nV
  rw [List.getElem?_map, List.getElem?_eq_getElem h, List.getD_eq_getElem?_getD, List.getElem?_eq_getElem h]
  rfl
section
variable {K : PySem.W.Frag} {H : Hp} {Q : VK} {a b : Addr} {c d : List Nat}
theorem own_cat (ha : H a = some (.tup (nV c))) (hb : H b = some (.tup (nV d))) (hl : c.length + d.length ≤ 1000)
    (k : ∀ p H', Same H H' → H' p = some (.tup (nV (c ++ d))) → Q (.ref p) H') : rCatA K (.ref a) (.ref b) H Q := by
  refine ⟨a, b, nV c, nV d, rfl, rfl, SqT.of ha, SqT.of hb, ?_, ?_, ?_, ?_⟩
  · rw [nV_len, nV_len]
    exact Nat.le_trans hl (by decide)
  · intro h
    rw [nV_nil h] at k
    exact k b H (Same.refl H) hb
  · intro _ h
    rw [nV_nil h, List.append_nil] at k
    exact k a H (Same.refl H) ha
  · intro _ _ p np
    exact k p _ (Same.new np) (by rw [nV_app]; exact upd_same)
theorem own_sl {lo hi : Option Int} {i j : Nat} (ha : H a = some (.tup (nV c))) (hi1 : HT.sIx c.length 0 lo = i) (hj1 : HT.sIx c.length c.length hi = j)
    (k : ∀ p H', Same H H' → H' p = some (.tup (nV ((c.drop i).take (j - i)))) → Q (.ref p) H') : rSlA K (.ref a) lo hi H Q := by
  refine ⟨a, nV c, rfl, SqT.of ha, ?_, ?_⟩
  · rintro ⟨h1, h2⟩
    rw [nV_len] at h1 h2
    have e0 : i = 0 := by omega
    have e1 : j = c.length := by omega
    rw [e0, e1, List.drop_zero, Nat.sub_zero, List.take_length] at k
    exact k a H (Same.refl H) ha
  · intro _ p np
    have e : cutV (nV c) lo hi = nV ((c.drop i).take (j - i)) := by
      unfold cutV
      rw [nV_len, hi1, hj1, nV_take, nV_drop]
    rw [e]
    exact k p _ (Same.new np) upd_same
theorem own_to {i : Nat} {z : Int} (hz : z = (i : Int)) (ha : H a = some (.tup (nV c)))
    (k : ∀ p H', Same H H' → H' p = some (.tup (nV (c.take i))) → Q (.ref p) H') : rSlA K (.ref a) none (some z) H Q := by
  subst hz
  refine own_sl ha (i := 0) (j := min i c.length) rfl (HT.sIx_nat _ _ _) fun v H' e h => k v H' e ?_
  have : (c.drop 0).take (min i c.length - 0) = c.take i := by
    rw [List.drop_zero, Nat.sub_zero]
    by_cases hi : i ≤ c.length
    · rw [Nat.min_eq_left hi]
    · rw [Nat.min_eq_right (by omega), List.take_length, List.take_of_length_le (by omega)]
  rw [this] at h
  exact h
theorem own_from {i : Nat} {z : Int} (hz : z = (i : Int)) (ha : H a = some (.tup (nV c)))
    (k : ∀ p H', Same H H' → H' p = some (.tup (nV (c.drop i))) → Q (.ref p) H') : rSlA K (.ref a) (some z) none H Q := by
  subst hz
  refine own_sl ha (i := min i c.length) (j := c.length) (HT.sIx_nat _ _ _) rfl fun v H' e h => k v H' e ?_
  have : (c.drop (min i c.length)).take (c.length - min i c.length) = c.drop i := by
    rw [List.take_of_length_le (by rw [List.length_drop]; omega)]
    by_cases hi : i ≤ c.length
    · rw [Nat.min_eq_left hi]
    · rw [Nat.min_eq_right (by omega), List.drop_length, List.drop_of_length_le (by omega)]
  rw [this] at h
  exact h
theorem own_ix {i : Int} {j : Nat} (hz : i = (j : Int)) (ha : H a = some (.tup (nV c))) (hj : j < c.length)
    (k : Q (.int (c.getD j 0 : Nat)) H) : rIxT K (.ref a) (.int i) H Q :=
  ⟨a, nV c, i, _, rfl, rfl, SqT.of ha, by rw [hz]; exact atI_nat (nV_get hj), k⟩
end
/-! ### loops over a list and over numbers, the body as it comes -/
theorem lcG {K : PySem.W.Frag} {a : Addr} {xs : List V} {Bd : V → Hp → (Hp → Prop) → Prop} {H1 : Hp} {Qd : Hp → Prop} (Pv : Nat → Hp → Prop) (h0 : Pv 0 H1) (hl : ∀ i H, i ≤ xs.length → Pv i H → SqL K H a xs)
    (hs : ∀ i x H, xs[i]? = some x → Pv i H → Bd x H (Pv (i + 1))) (hd : ∀ H, Pv xs.length H → Qd H) :
    ∃ W : Nat → Nat → Hp → Prop, (∃ m, W 0 m H1) ∧ ∀ i m H, W i m H →
      ((Itl K a).stop i H ∧ Qd H) ∨ ((Itl K a).go i H ∧ ∃ Nx : Hp → Prop, (∀ H', Nx H' → ∃ m', m' < m ∧ W (i + 1) m' H') ∧ ∀ x H', (Itl K a).yld i H x H' → Bd x H' Nx) := by
  refine ⟨fun i m H => m = xs.length - i ∧ i ≤ xs.length ∧ Pv i H, ⟨xs.length, by simp, Nat.zero_le _, h0⟩, ?_⟩
  rintro i m H ⟨rfl, hi, p⟩
  have q := hl i H hi p
  by_cases hlt : i < xs.length
  · refine .inr ⟨⟨xs, _, q, List.getElem?_eq_getElem hlt⟩, Pv (i + 1), fun H' p' => ⟨xs.length - (i + 1), by omega, rfl, hlt, p'⟩, fun x H' y => ?_⟩
    obtain ⟨e, y⟩ := y
    subst e
    exact hs i x _ (y xs q) p
  · have e : i = xs.length := by omega
    subst e
    exact .inl ⟨⟨xs, q, Nat.le_refl _⟩, hd H p⟩
theorem lcGr {lo : Int} {n : Nat} {Bd : V → Hp → (Hp → Prop) → Prop} {H1 : Hp} {Qd : Hp → Prop} (Pv : Nat → Hp → Prop) (h0 : Pv 0 H1)
    (hs : ∀ i H, i < n → Pv i H → Bd (.int (lo + i)) H (Pv (i + 1))) (hd : ∀ H, Pv n H → Qd H) :
    ∃ W : Nat → Nat → Hp → Prop, (∃ m, W 0 m H1) ∧ ∀ i m H, W i m H →
      ((Itr lo n).stop i H ∧ Qd H) ∨ ((Itr lo n).go i H ∧ ∃ Nx : Hp → Prop, (∀ H', Nx H' → ∃ m', m' < m ∧ W (i + 1) m' H') ∧ ∀ x H', (Itr lo n).yld i H x H' → Bd x H' Nx) := by
  refine ⟨fun i m H => m = n - i ∧ i ≤ n ∧ Pv i H, ⟨n, by simp, Nat.zero_le _, h0⟩, ?_⟩
  rintro i m H ⟨rfl, hi, p⟩
  by_cases hlt : i < n
  · refine .inr ⟨hlt, Pv (i + 1), fun H' p' => ⟨n - (i + 1), by omega, rfl, hlt, p'⟩, fun x H' y => ?_⟩
    obtain ⟨e, y⟩ := y
    subst e y
    exact hs i _ hlt p
  · have e : i = n := by omega
    subst e
    exact .inl ⟨Nat.le_refl _, hd H p⟩
theorem Tk.put {H : Hp} {D : Addr} {ys zs : List V} (h : H D = some (.lst ys)) : Tk H (upd H D (.lst zs)) := fun b o ne hb => by
  by_cases e : b = D
  · subst e
    rw [h] at hb
    cases hb
    exact absurd rfl (ne ys)
  · rw [upd_ne e]
    exact hb
theorem Same.put {H0 H : Hp} {D : Addr} {o : HO} (e : Same H0 H) (n : H0 D = none) : Same H0 (upd H D o) := fun b o' hb => by
  by_cases z : b = D
  · subst z
    rw [n] at hb
    cases hb
  · rw [upd_ne z]
    exact e _ _ hb
theorem Tts.same {H H' : Hp} {xs : List V} {cs : List (List Nat)} (t : Tts H xs cs) (e : Same H H') : Tts H' xs cs := t.tk fun b o _ h => e b o h
theorem flat_take {cs : List (List Nat)} {many size i : Nat} {c : List Nat} (h : cs[i]? = some c) : (cs.take (i + 1)).flatMap (extM many size) = (cs.take i).flatMap (extM many size) ++ extM many size c := by
  rw [List.take_succ, h, List.flatMap_append]
  simp
theorem ext_succ {size q : Nat} {c : List Nat} : extM (q + 1) size c = extM q size c ++ (if goN size c q = true then [c ++ [q]] else []) := by
  unfold extM
  rw [List.range_succ, List.filter_append, List.map_append]
  by_cases h : goN size c q = true
  · simp [h]
  · simp [h]
theorem ixN_back {n s : Nat} (h0 : 0 < s) (h : s ≤ n) : ixN n (-(s : Int)) = some (n - s) := by
  unfold ixN
  rw [if_neg (by omega)]
  first
    | (rw [if_pos (by omega)]; congr 1; omega)
    | (split <;> first | (congr 1; omega) | omega)
theorem atI_last {c : List Nat} (h : 0 < c.length) : atI (nV c) (-1) = some (.int (lastN c : Nat)) := by
  have e := nV_get (c := c) (i := c.length - 1) (by omega)
  unfold atI
  have := ixN_back (n := c.length) (s := 1) (by omega) h
  rw [nV_len, show (-1 : Int) = -((1 : Nat) : Int) from rfl, this]
  exact e
end Gd
namespace Gd
open PySem PySem.Spec PyProof.Rows L2
/-! ### slices of data -/
section
variable {K : PySem.W.Frag} {H : Hp} {ds : List PyData} {Q : VK} {x : V}
theorem slp {lo hi : Option Int} {i j : Nat} (hx : Dp K H x (.tuple ds)) (hi1 : HT.sIx ds.length 0 lo = i) (hj1 : HT.sIx ds.length ds.length hi = j)
    (k : ∀ v H', Same H H' → Dp K H' v (.tuple ((ds.drop i).take (j - i))) → Q v H') : rSlA K x lo hi H Q := by
  obtain ⟨b, xs, rfl, hs, ha⟩ := dp_tup hx
  have l1 := dpa_len _ _ ha
  refine ⟨b, xs, rfl, hs, ?_, ?_⟩
  · rintro ⟨h1, h2⟩
    rw [l1] at h1 h2
    have e0 : i = 0 := by omega
    have e1 : j = ds.length := by omega
    have := k (.ref b) H (Same.refl H)
    rw [e0, e1, List.drop_zero, Nat.sub_zero, List.take_length] at this
    exact this hx
  · intro _ p np
    have e : cutV xs lo hi = (xs.drop i).take (j - i) := by
      unfold cutV
      rw [l1, hi1, hj1]
    rw [e]
    obtain ⟨H', e', e1, h1⟩ := tup_new np (dpa_take (j - i) _ _ (dpa_drop i _ _ ha))
    rw [e']
    exact k _ _ e1 h1
theorem slp_to {i : Nat} {z : Int} (hz : z = (i : Int)) (hx : Dp K H x (.tuple ds)) (k : ∀ v H', Same H H' → Dp K H' v (.tuple (ds.take i)) → Q v H') : rSlA K x none (some z) H Q := by
  subst hz
  refine slp hx (i := 0) (j := min i ds.length) rfl (HT.sIx_nat _ _ _) fun v H' e h => k v H' e ?_
  have : (ds.drop 0).take (min i ds.length - 0) = ds.take i := by
    rw [List.drop_zero, Nat.sub_zero]
    by_cases hi : i ≤ ds.length
    · rw [Nat.min_eq_left hi]
    · rw [Nat.min_eq_right (by omega), List.take_length, List.take_of_length_le (by omega)]
  rw [this] at h
  exact h
theorem slp_from {i : Nat} {z : Int} (hz : z = (i : Int)) (hx : Dp K H x (.tuple ds)) (k : ∀ v H', Same H H' → Dp K H' v (.tuple (ds.drop i)) → Q v H') : rSlA K x (some z) none H Q := by
  subst hz
  refine slp hx (i := min i ds.length) (j := ds.length) (HT.sIx_nat _ _ _) rfl fun v H' e h => k v H' e ?_
  have : (ds.drop (min i ds.length)).take (ds.length - min i ds.length) = ds.drop i := by
    rw [List.take_of_length_le (by rw [List.length_drop]; omega)]
    by_cases hi : i ≤ ds.length
    · rw [Nat.min_eq_left hi]
    · rw [Nat.min_eq_right (by omega), List.drop_length, List.drop_of_length_le (by omega)]
  rw [this] at h
  exact h
end
end Gd
namespace Gd
open PySem PySem.Spec PyProof.Rows L2
/-! ### a list's lists of numbers -/
def Lls (H : Hp) (xs : List V) (rs : List (List Int)) : Prop := xs.length = rs.length ∧ ∀ i x, xs[i]? = some x → ∃ b, x = .ref b ∧ H b = some (.lst ((rs.getD i []).map V.int))
theorem Lls.same {H H' : Hp} {xs : List V} {rs : List (List Int)} (h : Lls H xs rs) (e : Same H H') : Lls H' xs rs :=
  ⟨h.1, fun i x hx => let ⟨b, h1, h2⟩ := h.2 i x hx; ⟨b, h1, e _ _ h2⟩⟩
theorem Lls.at {H : Hp} {xs : List V} {rs : List (List Int)} (h : Lls H xs rs) {i : Nat} (hi : i < rs.length) : ∃ b, xs[i]? = some (.ref b) ∧ H b = some (.lst ((rs.getD i []).map V.int)) := by
  have hl : i < xs.length := by rw [h.1]; exact hi
  obtain ⟨b, h1, h2⟩ := h.2 i _ (List.getElem?_eq_getElem hl)
  exact ⟨b, by rw [List.getElem?_eq_getElem hl, h1], h2⟩
end Gd
namespace Gd
open PySem PySem.Spec PyProof.Rows L2
/-! ### tuples of numbers, sorted -/
theorem call_sortTK {X : Cx} {K : PySem.W.Frag} (hK : X.K = K) {d : Nat} {B : Int} (hd : 1 ≤ d) : CallR X (.builtin "sorted") (rSortU K d B) := by
  subst hK
  exact cr_sortT hd
def toI (c : List Nat) : List Int := c.map fun (n : Nat) => (n : Int)
theorem toI_nV (c : List Nat) : (toI c).map V.int = nV c := by
  unfold toI nV
  rw [List.map_map]
  rfl
theorem Tts.perm0 {H : Hp} {xs ys : List V} (p : xs.Perm ys) : ∀ {cs : List (List Nat)}, Tts H xs cs → ∃ ds, Tts H ys ds ∧ cs.Perm ds := by
  induction p with
  | nil =>
    intro cs t
    cases t
    exact ⟨[], .nil, .nil⟩
  | cons x _ ih =>
    intro cs t
    cases t with
    | cons h t =>
      obtain ⟨ds, t', p'⟩ := ih t
      exact ⟨_ :: ds, .cons h t', p'.cons _⟩
  | swap x y l =>
    intro cs t
    cases t with
    | cons h1 t =>
      cases t with
      | cons h2 t => exact ⟨_, .cons h2 (.cons h1 t), .swap ..⟩
  | trans _ _ ih1 ih2 =>
    intro cs t
    obtain ⟨ds, t1, p1⟩ := ih1 t
    obtain ⟨es, t2, p2⟩ := ih2 t1
    exact ⟨es, t2, p1.trans p2⟩
theorem Tts.mem {H : Hp} {xs : List V} {cs : List (List Nat)} (t : Tts H xs cs) : ∀ x ∈ xs, ∃ b, ∃ c ∈ cs, x = .ref b ∧ H b = some (.tup (nV c)) := by
  induction t with
  | nil => intro x h; cases h
  | @cons b xs c cs h _ ih =>
    intro x hx
    rcases List.mem_cons.mp hx with rfl | hx
    · exact ⟨b, c, List.mem_cons_self .., rfl, h⟩
    · obtain ⟨b', c', h1, h2⟩ := ih x hx
      exact ⟨b', c', List.mem_cons_of_mem _ h1, h2⟩
theorem Tts.mem' {H : Hp} {xs : List V} {cs : List (List Nat)} (t : Tts H xs cs) : ∀ c ∈ cs, ∃ b, .ref b ∈ xs ∧ H b = some (.tup (nV c)) := by
  induction t with
  | nil => intro x h; cases h
  | @cons b xs c cs h _ ih =>
    intro x hx
    rcases List.mem_cons.mp hx with rfl | hx
    · exact ⟨b, List.mem_cons_self .., h⟩
    · obtain ⟨b', h1, h2⟩ := ih x hx
      exact ⟨b', List.mem_cons_of_mem _ h1, h2⟩
theorem Tts.pair {K : PySem.W.Frag} {H : Hp} {xs : List V} {cs : List (List Nat)} {f : List Int → Int} (t : Tts H xs cs)
    (h : xs.Pairwise fun x y => ∀ n m, TupI K H x n → TupI K H y m → f n ≤ f m) : cs.Pairwise fun c d => f (toI c) ≤ f (toI d) := by
  induction t with
  | nil => exact .nil
  | @cons b xs c cs hb t ih =>
    cases h with
    | cons h1 h2 =>
      refine .cons (fun d hd => ?_) (ih h2)
      obtain ⟨b', hm, hb'⟩ := t.mem' d hd
      exact h1 _ hm (toI c) (toI d) ⟨b, rfl, by rw [toI_nV]; exact SqT.of hb⟩ ⟨b', rfl, by rw [toI_nV]; exact SqT.of hb'⟩
theorem sort_one {α : Type} {f : α → Int} {ds cs : List α} (hp : ds.Perm cs) (hd : ds.Pairwise fun c d => f c ≤ f d) (hc : cs.Pairwise fun c d => f c < f d) : ds = cs := by
  refine List.Perm.eq_of_pairwise (le := fun c d => f c ≤ f d) ?_ hd (hc.imp fun h => Int.le_of_lt h) hp
  intro a b ha hb h1 h2
  have ha := hp.mem_iff.mp ha
  have e : f a = f b := by omega
  clear h1 h2 hp hd
  induction cs with
  | nil => cases ha
  | cons x cs ih =>
    cases hc with
    | cons g1 g2 =>
      rcases List.mem_cons.mp ha with rfl | ha' <;> rcases List.mem_cons.mp hb with rfl | hb'
      · rfl
      · have := g1 _ hb'; omega
      · have := g1 _ ha'; omega
      · exact ih g2 hb' ha'
/-! ### all sets of numbers -/
def setM (n c : Nat) : List Nat := (List.range n).filter fun j => decide (c / 2 ^ j % 2 = 1)
def rawM (n k : Nat) (m : Nat) : List (List Nat) := ((List.range m).map (setM n)).filter fun s => decide (s.length = k)
theorem raw_perm : ∀ n < 5, ∀ k < 9, (rawM n k (2 ^ n)).Perm (choicesM n k) := by decide +kernel
theorem choice_sorted : ∀ n < 5, ∀ k < 9, (choicesM n k).Pairwise (fun c d => TS.code 64 (toI c) < TS.code 64 (toI d)) := by decide +kernel
theorem choice_len64 : ∀ n < 5, ∀ k < 9, (choicesM n k).length < 64 := by decide +kernel
theorem raw_succ (n k m : Nat) : rawM n k (m + 1) = rawM n k m ++ (if (setM n m).length = k then [setM n m] else []) := by
  unfold rawM
  rw [List.range_succ, List.map_append, List.filter_append]
  by_cases h : (setM n m).length = k
  · simp [h]
  · simp [h]
theorem raw_len (n k m : Nat) : (rawM n k m).length ≤ m := by
  have := List.length_filter_le (fun s => decide (s.length = k)) ((List.range m).map (setM n))
  rw [List.length_map, List.length_range] at this
  exact this
theorem set_mem {n c j : Nat} (h : j ∈ setM n c) : j < n := List.mem_range.mp (List.mem_filter.mp h).1
theorem raw_mem {n k m : Nat} {s : List Nat} (h : s ∈ rawM n k m) : s.length = k ∧ ∀ j ∈ s, j < n := by
  obtain ⟨h1, h2⟩ := List.mem_filter.mp h
  obtain ⟨c, _, rfl⟩ := List.mem_map.mp h1
  exact ⟨of_decide_eq_true h2, fun j hj => set_mem hj⟩
/-! ### a comprehension over a tuple, the body as it comes -/
theorem lcGt {K : PySem.W.Frag} {a : Addr} {xs : List V} {Bd : V → Hp → (Hp → Prop) → Prop} {H1 : Hp} {Qd : Hp → Prop} (Pv : Nat → Hp → Prop) (h0 : Pv 0 H1) (hl : ∀ i H, i ≤ xs.length → Pv i H → SqT K H a xs)
    (hs : ∀ i x H, xs[i]? = some x → Pv i H → Bd x H (Pv (i + 1))) (hd : ∀ H, Pv xs.length H → Qd H) :
    ∃ W : Nat → Nat → Hp → Prop, (∃ m, W 0 m H1) ∧ ∀ i m H, W i m H →
      ((Itt K a).stop i H ∧ Qd H) ∨ ((Itt K a).go i H ∧ ∃ Nx : Hp → Prop, (∀ H', Nx H' → ∃ m', m' < m ∧ W (i + 1) m' H') ∧ ∀ x H', (Itt K a).yld i H x H' → Bd x H' Nx) := by
  refine ⟨fun i m H => m = xs.length - i ∧ i ≤ xs.length ∧ Pv i H, ⟨xs.length, by simp, Nat.zero_le _, h0⟩, ?_⟩
  rintro i m H ⟨rfl, hi, p⟩
  have q := hl i H hi p
  by_cases hlt : i < xs.length
  · refine .inr ⟨⟨xs, _, q, List.getElem?_eq_getElem hlt⟩, Pv (i + 1), fun H' p' => ⟨xs.length - (i + 1), by omega, rfl, hlt, p'⟩, fun x H' y => ?_⟩
    obtain ⟨e, y⟩ := y
    subst e
    exact hs i x _ (y xs q) p
  · have e : i = xs.length := by omega
    subst e
    exact .inl ⟨⟨xs, q, Nat.le_refl _⟩, hd H p⟩
/-! ### a list's lists, put together one by one -/
theorem Lls.snoc {H : Hp} {xs : List V} {rs : List (List Int)} {b : Addr} {r : List Int} (h : Lls H xs rs) (hb : H b = some (.lst (r.map V.int))) : Lls H (xs ++ [.ref b]) (rs ++ [r]) := by
  refine ⟨by rw [List.length_append, List.length_append, h.1]; rfl, fun i x hx => ?_⟩
  rw [List.getElem?_append] at hx
  split at hx
  · next hi =>
    obtain ⟨c, h1, h2⟩ := h.2 i x hx
    refine ⟨c, h1, ?_⟩
    rw [List.getD_eq_getElem?_getD, List.getElem?_append_left (by rw [← h.1]; exact hi), ← List.getD_eq_getElem?_getD]
    exact h2
  · next hi =>
    have e : i = xs.length := by
      have := (List.getElem?_eq_some_iff.mp hx).1
      simp only [List.length_singleton] at this
      omega
    subst e
    simp at hx
    refine ⟨b, hx.symm, ?_⟩
    rw [List.getD_eq_getElem?_getD, h.1, List.getElem?_append_right (Nat.le_refl _), Nat.sub_self]
    exact hb
theorem Lls.put {H : Hp} {xs : List V} {rs : List (List Int)} {D : Addr} {o : HO} (h : Lls H xs rs) (n : ∀ x ∈ xs, x ≠ .ref D) : Lls (upd H D o) xs rs :=
  ⟨h.1, fun i x hx => by
    obtain ⟨b, rfl, hb⟩ := h.2 i x hx
    refine ⟨b, rfl, ?_⟩
    rw [upd_ne fun z => n _ (List.mem_of_getElem? hx) (by rw [z])]
    exact hb⟩
end Gd
namespace Gd
open PySem PySem.Spec PyProof.Rows L2
/-! ### a list made longer by a tuple -/
open PySem.AutoSeq1 in
theorem ext_tup (l : Addr) (ys : Array Value) (n : Nat) (b : Addr) (zs : Array Value) (m : Nat) (dd : Option Addr) (sl : Array (Option Value))
    (h0 : ¬ (!ys.isEmpty && Builtin.List.listTooLong (ys.size + zs.size)) = true) (h1 : ys.size ≤ sizeLine) (h2 : ys.size + zs.size ≤ sizeLine + 1) :
    Meets (Builtin.«list.extend» ⟨[.ref l, .ref b], []⟩) (fun _ R s =>
      s.heap.get? l = some { cls := .type "list", dict := none, data := .seq ys n, slots := #[] } ∧
      s.heap.get? b = some { cls := .type "tuple", dict := dd, data := .seq zs m, slots := sl } ∧
      R (.ok (.ret Value.none)) { s with heap := s.heap.update l (Obj.mapSeq fun x => x ++ zs), toks := s.toks }) :=
  .of_wp fun prog w A R s h => by
    obtain ⟨hp, g, d, tk, os⟩ := s
    obtain ⟨hl, hb, h⟩ := h
    have f1 := idx_int
    have f2 := PySem.AutoSeq1.sub_tuple_tuple
    have f3 := PySem.AutoSeq1.sub_list_list
    have f4 := PySem.AutoSeq1.sub_tuple_list
    have f5 := PySem.AutoSeq1.sub_list_tuple
    have h3 : (ys ++ zs).size ≤ sizeLine + 1 := by
      rw [Array.size_append]
      exact h2
    wp_walk using (wpAny_updateSeq hl rfl (hz := h1) (_hz' := h3)), wpAny_loadPart' hl, wpAny_loadPart' hb
    exact ⟨_, rfl, h⟩
def rExtT (K : PySem.W.Frag) : V → List V → Hp → VK → Prop := fun x vs H Q => ∃ l b xs zs, x = .ref l ∧ vs = [.ref b] ∧ H l = some (.lst xs) ∧ SqT K H b zs ∧ xs.length + zs.length ≤ sizeLine ∧ Q .non (upd H l (.lst (xs ++ zs)))
theorem mt_extT {X : Cx} : MtM X "list.extend" (rExtT X.K) := by
  intro pins s σ H x vs v us Q I rx rv h
  obtain ⟨l, b, xs, zs, rfl, rfl, hH, hB, hz, q⟩ := h
  cases rx
  obtain ⟨u, rfl, ru⟩ := rv.one
  cases ru
  obtain ⟨z, its, n, r, hl, e⟩ := I.lstM hH
  obtain ⟨its2, r2, ⟨o, e2, hc, n2, hd⟩, _⟩ := I.tuple hB
  obtain ⟨oc, od, odt, osl⟩ := o
  cases hc
  cases hd
  have hl2 := r2.length
  have hsz : its.toArray.size + its2.toArray.size ≤ sizeLine := by
    rw [List.size_toArray, List.size_toArray]
    omega
  have hlong : ¬ (!its.toArray.isEmpty && Builtin.List.listTooLong (its.toArray.size + its2.toArray.size)) = true := by
    rw [notLongL hsz, Bool.and_false]
    exact Bool.false_ne_true
  refine call_meets F.slot_list_extend ⟨_, e, rfl⟩ F.entry_list_extend (F.args_list_extend_2 _ _) (ext_tup l its.toArray n b its2.toArray n2 _ _ hlong (by rw [List.size_toArray]; omega) (by omega)) ⟨e, e2, ?_⟩
  refine ⟨.non, _, I.lset (its' := its ++ its2) hH e (by simp) (r.append r2) ?_, rfl, q⟩
  rw [List.length_append]
  omega
theorem mt_extTK {X : Cx} {K : PySem.W.Frag} (hK : X.K = K) : MtM X "list.extend" (rExtT K) := by
  subst hK
  exact mt_extT
end Gd
namespace Gd
open PySem PySem.Spec PyProof.Rows L2
/-! ### a law's feed that is a dict: cells, at, left, turn -/
def fdK (s : Addr) (p l c : Int) : List (L2.Key × V) := [(.inr "cells", .ref s), (.inr "at", .int p), (.inr "left", .int l), (.inr "turn", .int c)]
def Fx (H : Hp) (a s : Addr) (n : Nat) : Prop :=
  ∃ (ns : List Int) (p l c : Int), H a = some (.dK (fdK s p l c)) ∧ H s = some (.lst (ns.map V.int)) ∧ ns.length ≤ 63 ∧ 0 ≤ p ∧ 0 ≤ l ∧ 0 ≤ c ∧ c ≤ (n : Int)
theorem Fx.mono {H : Hp} {a s : Addr} {n m : Nat} (h : Fx H a s n) (e : n ≤ m) : Fx H a s m := by
  obtain ⟨ns, p, l, c, h1, h2, h3, h4, hl, h5, h6⟩ := h
  exact ⟨ns, p, l, c, h1, h2, h3, h4, hl, h5, by omega⟩
theorem Fx.same {H H' : Hp} {a s : Addr} {n : Nat} (h : Fx H a s n) (e : Same H H') : Fx H' a s n := by
  obtain ⟨ns, p, l, c, h1, h2, h3, h4, hl, h5, h6⟩ := h
  exact ⟨ns, p, l, c, e _ _ h1, e _ _ h2, h3, h4, hl, h5, h6⟩
theorem Fx.nn {H : Hp} {a s : Addr} {n : Nat} (h : Fx H a s n) : H a ≠ none := by
  obtain ⟨ns, p, l, c, h1, _⟩ := h
  rw [h1]
  exact fun z => nomatch z
theorem Fx.upd {H : Hp} {a s D : Addr} {n : Nat} {o : HO} (h : Fx H a s n) (h1 : D ≠ a) (h2 : D ≠ s) : Fx (L2.upd H D o) a s n := by
  obtain ⟨ns, p, l, c, e1, e2, h3, h4, hl, h5, h6⟩ := h
  exact ⟨ns, p, l, c, by rw [upd_ne h1.symm]; exact e1, by rw [upd_ne h2.symm]; exact e2, h3, h4, hl, h5, h6⟩
theorem Fx.apart {H : Hp} {a s D : Addr} {n : Nat} (h : Fx H a s n) (hD : H D = none) : D ≠ a ∧ D ≠ s := by
  obtain ⟨ns, p, l, c, e1, e2, _⟩ := h
  constructor
  · intro z
    rw [z, e1] at hD
    cases hD
  · intro z
    rw [z, e2] at hD
    cases hD
theorem Fx.tk {H H' : Hp} {a s : Addr} {n : Nat} (h : Fx H a s n) (e : Sb a H H') : ∀ b o, (∀ kvs, o ≠ .dK kvs) → H b = some o → H' b = some o := by
  obtain ⟨ns, p, l, c, e1, _⟩ := h
  intro b o no hb
  refine e b o ?_ hb
  rintro rfl
  rw [e1] at hb
  cases hb
  exact no _ rfl
theorem kn_cells_at : (("cells" : Str) = ("at" : Str)) = False := eq_false (by decide +kernel)
theorem kn_cells_left : (("cells" : Str) = ("left" : Str)) = False := eq_false (by decide +kernel)
theorem kn_cells_turn : (("cells" : Str) = ("turn" : Str)) = False := eq_false (by decide +kernel)
theorem kn_at_cells : (("at" : Str) = ("cells" : Str)) = False := eq_false (by decide +kernel)
theorem kn_at_left : (("at" : Str) = ("left" : Str)) = False := eq_false (by decide +kernel)
theorem kn_at_turn : (("at" : Str) = ("turn" : Str)) = False := eq_false (by decide +kernel)
theorem kn_left_cells : (("left" : Str) = ("cells" : Str)) = False := eq_false (by decide +kernel)
theorem kn_left_at : (("left" : Str) = ("at" : Str)) = False := eq_false (by decide +kernel)
theorem kn_left_turn : (("left" : Str) = ("turn" : Str)) = False := eq_false (by decide +kernel)
theorem kn_turn_cells : (("turn" : Str) = ("cells" : Str)) = False := eq_false (by decide +kernel)
theorem kn_turn_at : (("turn" : Str) = ("at" : Str)) = False := eq_false (by decide +kernel)
theorem kn_turn_left : (("turn" : Str) = ("left" : Str)) = False := eq_false (by decide +kernel)
section
variable {H : Hp} {a s : Addr} {p l c : Int}
theorem dg_cells (h : H a = some (.dK (fdK s p l c))) : DGet H a (.str "cells") (some (.ref s)) := .inl ⟨_, .inr "cells", .inl h, rfl, rfl⟩
theorem dg_at (h : H a = some (.dK (fdK s p l c))) : DGet H a (.str "at") (some (.int p)) := .inl ⟨_, .inr "at", .inl h, rfl, by simp [valV, fdK, kn_cells_at, kn_cells_left, kn_cells_turn, kn_at_cells, kn_at_left, kn_at_turn, kn_left_cells, kn_left_at, kn_left_turn, kn_turn_cells, kn_turn_at, kn_turn_left]⟩
theorem dg_left (h : H a = some (.dK (fdK s p l c))) : DGet H a (.str "left") (some (.int l)) := .inl ⟨_, .inr "left", .inl h, rfl, by simp [valV, fdK, kn_cells_at, kn_cells_left, kn_cells_turn, kn_at_cells, kn_at_left, kn_at_turn, kn_left_cells, kn_left_at, kn_left_turn, kn_turn_cells, kn_turn_at, kn_turn_left]⟩
theorem dg_turn (h : H a = some (.dK (fdK s p l c))) : DGet H a (.str "turn") (some (.int c)) := .inl ⟨_, .inr "turn", .inl h, rfl, by simp [valV, fdK, kn_cells_at, kn_cells_left, kn_cells_turn, kn_at_cells, kn_at_left, kn_at_turn, kn_left_cells, kn_left_at, kn_left_turn, kn_turn_cells, kn_turn_at, kn_turn_left]⟩
theorem dp_at (h : H a = some (.dK (fdK s p l c))) (x : Int) : DPut H a (.str "at") (.int x) (L2.upd H a (.dK (fdK s x l c))) := .inl ⟨_, .inr "at", h, rfl, by show 4 < sizeLine; decide, by simp [putK, fdK, kn_cells_at, kn_cells_left, kn_cells_turn, kn_at_cells, kn_at_left, kn_at_turn, kn_left_cells, kn_left_at, kn_left_turn, kn_turn_cells, kn_turn_at, kn_turn_left]⟩
theorem dp_left (h : H a = some (.dK (fdK s p l c))) (x : Int) : DPut H a (.str "left") (.int x) (L2.upd H a (.dK (fdK s p x c))) := .inl ⟨_, .inr "left", h, rfl, by show 4 < sizeLine; decide, by simp [putK, fdK, kn_cells_at, kn_cells_left, kn_cells_turn, kn_at_cells, kn_at_left, kn_at_turn, kn_left_cells, kn_left_at, kn_left_turn, kn_turn_cells, kn_turn_at, kn_turn_left]⟩
theorem dp_turn (h : H a = some (.dK (fdK s p l c))) (x : Int) : DPut H a (.str "turn") (.int x) (L2.upd H a (.dK (fdK s p l x))) := .inl ⟨_, .inr "turn", h, rfl, by show 4 < sizeLine; decide, by simp [putK, fdK, kn_cells_at, kn_cells_left, kn_cells_turn, kn_at_cells, kn_at_left, kn_at_turn, kn_left_cells, kn_left_at, kn_left_turn, kn_turn_cells, kn_turn_at, kn_turn_left]⟩
end
def spFeedX (K : PySem.W.Frag) : Sp := fun vs H Q _ => ∃ (sc : Addr) (ns : List Int), vs = [.ref sc] ∧ SqL K H sc (ns.map V.int) ∧ ns.length ≤ 63 ∧
  ∀ (a s : Addr) (H' : Hp), H a = none → H s = none → Same H H' → Fx H' a s 0 → Q (.ref a) H'
def spDrawX : Sp := fun vs H Q _ => ∃ (a s : Addr) (m : Int) (n : Nat), vs = [.ref a, .int m] ∧ Fx H a s n ∧ n ≤ 1000000 ∧ 1 ≤ m ∧ m ≤ 1000000 ∧
  ∀ (r : Int) (H' : Hp), 0 ≤ r → r < m → Sb a H H' → Fx H' a s (n + 1) → Q (.int r) H'
end Gd
namespace Gd
open PySem PySem.Spec PyProof.Rows L2
/-! ### numbers and truths reckoned -/
def NumV (x : V) (i : Int) : Prop := x = .int i ∨ ∃ b, x = .bl b ∧ i = if b = true then (1 : Int) else 0
section
variable {X : Cx}
theorem op_addB : OpR X (binaryOp .Add) (fun x y H Q => ∃ i j, NumV x i ∧ y = .int j ∧ Q (.int (i + j)) H) := by
  intro pins s σ H x y v u Q I rx ry h
  obtain ⟨i, j, hx | ⟨b, rfl, rfl⟩, rfl, q⟩ := h
  · subst hx
    exact op_add pins s σ H _ _ v u Q I rx ry ⟨i, j, rfl, rfl, q⟩
  · cases (show v = Value.bool b from rx)
    obtain ⟨t, rfl⟩ := ry
    exact PySem.IntBool.add_bool_int ⟨.int _, H, I.tok _, ⟨_, rfl⟩, q⟩
theorem op_subB : OpR X (binaryOp .Sub) (fun x y H Q => ∃ i j, NumV x i ∧ y = .int j ∧ Q (.int (i - j)) H) := by
  intro pins s σ H x y v u Q I rx ry h
  obtain ⟨i, j, hx | ⟨b, rfl, rfl⟩, rfl, q⟩ := h
  · subst hx
    exact op_sub pins s σ H _ _ v u Q I rx ry ⟨i, j, rfl, rfl, q⟩
  · cases (show v = Value.bool b from rx)
    obtain ⟨t, rfl⟩ := ry
    exact PySem.IntBool.sub_bool_int ⟨.int _, H, I.tok _, ⟨_, rfl⟩, q⟩
theorem op_subR : OpR X (binaryOp .Sub) (fun x y H Q => ∃ i j, x = .int j ∧ NumV y i ∧ Q (.int (j - i)) H) := by
  intro pins s σ H x y v u Q I rx ry h
  obtain ⟨i, j, rfl, hx | ⟨b, rfl, rfl⟩, q⟩ := h
  · subst hx
    exact op_sub pins s σ H _ _ v u Q I rx ry ⟨j, i, rfl, rfl, q⟩
  · cases (show u = Value.bool b from ry)
    obtain ⟨t, rfl⟩ := rx
    exact PySem.IntBool.sub_int_bool ⟨.int _, H, I.tok _, ⟨_, rfl⟩, q⟩
theorem op_mulB : OpR X (binaryOp .Mult) (fun x y H Q => ∃ i j, NumV x i ∧ y = .int j ∧ CMul i j ∧ Q (.int (i * j)) H) := by
  intro pins s σ H x y v u Q I rx ry h
  obtain ⟨i, j, hx | ⟨b, rfl, rfl⟩, rfl, hc, q⟩ := h
  · subst hx
    exact op_mul pins s σ H _ _ v u Q I rx ry ⟨i, j, rfl, rfl, hc, q⟩
  · cases (show v = Value.bool b from rx)
    obtain ⟨t, rfl⟩ := ry
    exact PySem.IntBool.mul_bool_int ⟨.int _, H, I.tok _, ⟨_, rfl⟩, q⟩
theorem op_eqB : OpR X (compareOp .Eq) (fun x y H Q => ∃ i j, NumV x i ∧ y = .int j ∧ Q (.bl (decide (i = j))) H) := by
  intro pins s σ H x y v u Q I rx ry h
  obtain ⟨i, j, hx | ⟨b, rfl, rfl⟩, rfl, q⟩ := h
  · subst hx
    refine op_eq pins s σ H _ _ v u Q I rx ry ⟨rfl, ?_⟩
    rw [show decide (V.int i = V.int j) = decide (i = j) by simp]
    exact q
  · cases (show v = Value.bool b from rx)
    obtain ⟨t, rfl⟩ := ry
    refine PySem.EqBoolInt.eq_bool_int ⟨.bl _, H, I, rfl, ?_⟩
    exact q
theorem log_100 {i : Int} (h : i.natAbs < 10 ^ 100) : i.natAbs.log2 < 1920 := by
  have h1 : i.natAbs < 2 ^ 400 := Nat.lt_of_lt_of_le h (by decide)
  have := PySem.Flt.log2_lt_of (by decide) h1
  omega
theorem text_ok (t : String) (h : (Str.ofString t).length ≤ 101) : PyData.strOk (Str.ofString t) = true ∧ (Str.ofString t).length ≤ 101 := ⟨strOk_of t, h⟩
theorem call_strB : CallR X (.type "str") (fun xs H Q => ∃ x i, xs = [x] ∧ NumV x i ∧ i.natAbs < 10 ^ 100 ∧ ∀ t : Str, PyData.strOk t = true → t.length ≤ 101 → Q (.str t) H) := by
  intro pins s σ H xs us Q I r h
  obtain ⟨x, i, rfl, hx | ⟨b, rfl, rfl⟩, hz, q⟩ := h
  · subst hx
    obtain ⟨u, rfl, t, rfl⟩ := vals1 r
    refine PySem.P.str_of_int (log_100 hz) ⟨.str _, H, I.tok _, ⟨_, rfl⟩, q _ (strOk_of _) ?_⟩
    have e := PySem.int_text_length_le10 (a := i) (k := 100) (by decide) (by omega)
    have e2 := PySem.ofString_length (toString i)
    omega
  · obtain ⟨u, rfl, rx⟩ := vals1 r
    cases (show u = Value.bool b from rx)
    refine PySem.P.str_of_bool ?_
    cases b
    · exact ⟨.str _, H, I.tok _, ⟨_, rfl⟩, q _ (by decide +kernel) (by decide +kernel)⟩
    · exact ⟨.str _, H, I.tok _, ⟨_, rfl⟩, q _ (by decide +kernel) (by decide +kernel)⟩
end
end Gd

set_option Elab.async false
set_option linter.all false
set_option maxRecDepth 100000
set_option maxHeartbeats 1000000
namespace K55
open PySem PySem.Spec PyProof.Rows L2 Gd
def top (i : Nat) : Stmt := PySem.Challenge.pw_stepforms_k55_rounds_by_kind.main.body.getD i (.Pass ⟨0, 0, 0, 0⟩)
abbrev s_is_number : Stmt := top 1
abbrev n_is_number : List Str := ["thing"]
abbrev p_is_number : List Str := ["thing"]
theorem sc_is_number : FnScope n_is_number p_is_number (defScope s_is_number) := ⟨rfl, rfl, rfl, by decide +kernel, rfl, by decide +kernel, by decide +kernel⟩
theorem bn_is_number : BndOk "is_number" s_is_number p_is_number := fun _ _ _ _ _ _ us hl => match us, hl with | [_], _ => rfl
abbrev s_is_row : Stmt := top 3
abbrev n_is_row : List Str := ["wide", "thing", "number"]
abbrev p_is_row : List Str := ["wide", "thing"]
theorem sc_is_row : FnScope n_is_row p_is_row (defScope s_is_row) := ⟨rfl, rfl, rfl, by decide +kernel, rfl, by decide +kernel, by decide +kernel⟩
theorem bn_is_row : BndOk "is_row" s_is_row p_is_row := fun _ _ _ _ _ _ us hl => match us, hl with | [_, _], _ => rfl
abbrev s_is_table : Stmt := top 4
abbrev n_is_table : List Str := ["thing", "wide", "rows", "row"]
abbrev p_is_table : List Str := ["thing"]
theorem sc_is_table : FnScope n_is_table p_is_table (defScope s_is_table) := ⟨rfl, rfl, rfl, by decide +kernel, rfl, by decide +kernel, by decide +kernel⟩
theorem bn_is_table : BndOk "is_table" s_is_table p_is_table := fun _ _ _ _ _ _ us hl => match us, hl with | [_], _ => rfl
abbrev s_divides : Stmt := top 6
abbrev n_divides : List Str := ["one", "other"]
abbrev p_divides : List Str := ["one", "other"]
theorem sc_divides : FnScope n_divides p_divides (defScope s_divides) := ⟨rfl, rfl, rfl, by decide +kernel, rfl, by decide +kernel, by decide +kernel⟩
theorem bn_divides : BndOk "divides" s_divides p_divides := fun _ _ _ _ _ _ us hl => match us, hl with | [_, _], _ => rfl
abbrev s_are_downs : Stmt := top 7
abbrev n_are_downs : List Str := ["downs", "down", "at"]
abbrev p_are_downs : List Str := ["downs"]
theorem sc_are_downs : FnScope n_are_downs p_are_downs (defScope s_are_downs) := ⟨rfl, rfl, rfl, by decide +kernel, rfl, by decide +kernel, by decide +kernel⟩
theorem bn_are_downs : BndOk "are_downs" s_are_downs p_are_downs := fun _ _ _ _ _ _ us hl => match us, hl with | [_], _ => rfl
abbrev s_is_bare : Stmt := top 8
abbrev n_is_bare : List Str := ["rows", "at", "row", "column", "number"]
abbrev p_is_bare : List Str := ["rows"]
theorem sc_is_bare : FnScope n_is_bare p_is_bare (defScope s_is_bare) := ⟨rfl, rfl, rfl, by decide +kernel, rfl, by decide +kernel, by decide +kernel⟩
theorem bn_is_bare : BndOk "is_bare" s_is_bare p_is_bare := fun _ _ _ _ _ _ us hl => match us, hl with | [_], _ => rfl
abbrev s_downs_of : Stmt := top 9
abbrev n_downs_of : List Str := ["form", "wide", "rows", "k"]
abbrev p_downs_of : List Str := ["form"]
theorem sc_downs_of : FnScope n_downs_of p_downs_of (defScope s_downs_of) := ⟨rfl, rfl, rfl, by decide +kernel, rfl, by decide +kernel, by decide +kernel⟩
theorem bn_downs_of : BndOk "downs_of" s_downs_of p_downs_of := fun _ _ _ _ _ _ us hl => match us, hl with | [_], _ => rfl
abbrev s_is_rounds : Stmt := top 10
abbrev n_is_rounds : List Str := ["thing"]
abbrev p_is_rounds : List Str := ["thing"]
theorem sc_is_rounds : FnScope n_is_rounds p_is_rounds (defScope s_is_rounds) := ⟨rfl, rfl, rfl, by decide +kernel, rfl, by decide +kernel, by decide +kernel⟩
theorem bn_is_rounds : BndOk "is_rounds" s_is_rounds p_is_rounds := fun _ _ _ _ _ _ us hl => match us, hl with | [_], _ => rfl
abbrev s_l_feed : Stmt := top 12
abbrev n_l_feed : List Str := ["_law_script"]
abbrev p_l_feed : List Str := ["_law_script"]
theorem sc_l_feed : FnScope n_l_feed p_l_feed (defScope s_l_feed) := ⟨rfl, rfl, rfl, by decide +kernel, rfl, by decide +kernel, by decide +kernel⟩
theorem bn_l_feed : BndOk "_law_feed" s_l_feed p_l_feed := fun _ _ _ _ _ _ us hl => match us, hl with | [_], _ => rfl
abbrev s_l_draw : Stmt := top 13
abbrev n_l_draw : List Str := ["_law_feed_here", "_law_many", "_law_cells", "_law_turn", "_law_found", "_law_cell", "_law_mixed"]
abbrev p_l_draw : List Str := ["_law_feed_here", "_law_many"]
theorem sc_l_draw : FnScope n_l_draw p_l_draw (defScope s_l_draw) := ⟨rfl, rfl, rfl, by decide +kernel, rfl, by decide +kernel, by decide +kernel⟩
theorem bn_l_draw : BndOk "_law_draw" s_l_draw p_l_draw := fun _ _ _ _ _ _ us hl => match us, hl with | [_, _], _ => rfl
abbrev s_l_rounds : Stmt := top 14
abbrev n_l_rounds : List Str := ["_law_many", "_law_wide", "_law_downs", "_law_found", "_law_k", "_law_j"]
abbrev p_l_rounds : List Str := ["_law_many", "_law_wide", "_law_downs"]
theorem sc_l_rounds : FnScope n_l_rounds p_l_rounds (defScope s_l_rounds) := ⟨rfl, rfl, rfl, by decide +kernel, rfl, by decide +kernel, by decide +kernel⟩
theorem bn_l_rounds : BndOk "_law_rounds" s_l_rounds p_l_rounds := fun _ _ _ _ _ _ us hl => match us, hl with | [_, _, _], _ => rfl
abbrev s_l_is_table : Stmt := top 15
abbrev n_l_is_table : List Str := ["_law_thing", "_law_row", "_law_one"]
abbrev p_l_is_table : List Str := ["_law_thing"]
theorem sc_l_is_table : FnScope n_l_is_table p_l_is_table (defScope s_l_is_table) := ⟨rfl, rfl, rfl, by decide +kernel, rfl, by decide +kernel, by decide +kernel⟩
theorem bn_l_is_table : BndOk "_law_is_table" s_l_is_table p_l_is_table := fun _ _ _ _ _ _ us hl => match us, hl with | [_], _ => rfl
abbrev s_l_is_rounds : Stmt := top 16
abbrev n_l_is_rounds : List Str := ["_law_thing", "_law_wide", "_law_rows", "_law_ahead", "_law_k", "_law_down", "_law_j"]
abbrev p_l_is_rounds : List Str := ["_law_thing"]
theorem sc_l_is_rounds : FnScope n_l_is_rounds p_l_is_rounds (defScope s_l_is_rounds) := ⟨rfl, rfl, rfl, by decide +kernel, rfl, by decide +kernel, by decide +kernel⟩
theorem bn_l_is_rounds : BndOk "_law_is_rounds" s_l_is_rounds p_l_is_rounds := fun _ _ _ _ _ _ us hl => match us, hl with | [_], _ => rfl
abbrev s_l_bent : Stmt := top 17
abbrev n_l_bent : List Str := ["_law_feed_here", "_law_thing", "_law_deep", "_law_way", "_law_at", "_law_odd", "_law_some", "_law_letter"]
abbrev p_l_bent : List Str := ["_law_feed_here", "_law_thing", "_law_deep"]
theorem sc_l_bent : FnScope n_l_bent p_l_bent (defScope s_l_bent) := ⟨rfl, rfl, rfl, by decide +kernel, rfl, by decide +kernel, by decide +kernel⟩
theorem bn_l_bent : BndOk "_law_bent" s_l_bent p_l_bent := fun _ _ _ _ _ _ us hl => match us, hl with | [_, _, _], _ => rfl
abbrev s_l_near : Stmt := top 18
abbrev n_l_near : List Str := ["_law_feed_here", "_law_many", "_law_wide", "_law_downs", "_law_way", "_law_at", "_law_some", "_law_rows", "_law_i", "_law_j", "_law_row"]
abbrev p_l_near : List Str := ["_law_feed_here", "_law_many", "_law_wide", "_law_downs"]
theorem sc_l_near : FnScope n_l_near p_l_near (defScope s_l_near) := ⟨rfl, rfl, rfl, by decide +kernel, rfl, by decide +kernel, by decide +kernel⟩
theorem bn_l_near : BndOk "_law_near" s_l_near p_l_near := fun _ _ _ _ _ _ us hl => match us, hl with | [_, _, _, _], _ => rfl
abbrev s_l_great_right : Stmt := top 19
abbrev n_l_great_right : List Str := ["_law_feed_here", "_law_many", "_law_wide", "_law_i", "_law_j", "_law_number", "_law_downs", "_law_good", "_law_row", "_law_near_here"]
abbrev p_l_great_right : List Str := ["_law_feed_here"]
theorem sc_l_great_right : FnScope n_l_great_right p_l_great_right (defScope s_l_great_right) := ⟨rfl, rfl, rfl, by decide +kernel, rfl, by decide +kernel, by decide +kernel⟩
theorem bn_l_great_right : BndOk "_law_great_right" s_l_great_right p_l_great_right := fun _ _ _ _ _ _ us hl => match us, hl with | [_], _ => rfl
abbrev s_l_is_vast : Stmt := top 20
abbrev n_l_is_vast : List Str := ["_law_thing", "_law_one"]
abbrev p_l_is_vast : List Str := ["_law_thing"]
theorem sc_l_is_vast : FnScope n_l_is_vast p_l_is_vast (defScope s_l_is_vast) := ⟨rfl, rfl, rfl, by decide +kernel, rfl, by decide +kernel, by decide +kernel⟩
theorem bn_l_is_vast : BndOk "_law_is_vast" s_l_is_vast p_l_is_vast := fun _ _ _ _ _ _ us hl => match us, hl with | [_], _ => rfl
abbrev s_law : Stmt := top 21
abbrev n_law : List Str := ["_law_script", "_law_feed_here", "_law_turn", "_law_many", "_law_wide", "_law_downs", "_law_down", "_law_k", "_law_good", "_law_some", "_law_bent_here", "_law_thing", "_law_kept", "_law_due", "_law_again", "_law_one"]
abbrev p_law : List Str := ["_law_script"]
theorem sc_law : FnScope n_law p_law (defScope s_law) := ⟨rfl, rfl, rfl, by decide +kernel, rfl, by decide +kernel, by decide +kernel⟩
theorem bn_law : BndOk "law" s_law p_law := fun _ _ _ _ _ _ us hl => match us, hl with | [_], _ => rfl
structure Bn (mg : Str → Option Value) : Prop where
  isinstance_ : mg "isinstance" = none
  int_ : mg "int" = none
  bool_ : mg "bool" = none
  all_ : mg "all" = none
  tuple_ : mg "tuple" = none
  len_ : mg "len" = none
  any_ : mg "any" = none
  enumerate_ : mg "enumerate" = none
  range_ : mg "range" = none
  min_ : mg "min" = none
  list_ : mg "list" = none
  abs_ : mg "abs" = none
  str_ : mg "str" = none
  max_ : mg "max" = none
  repr_ : mg "repr" = none
variable {P : Program} {w : World} {K : PySem.W.Frag} {mg : Str → Option Value} {base : Heap}
theorem tAnd_dec {tA tB : TT} {σ : L2.St} {H : Hp} {Q : Bool → Hp → Prop} {b1 b2 : Bool} (h1 : ∀ Q, Q b1 H → tA σ H Q) (h2 : ∀ Q, Q b2 H → tB σ H Q) (q : Q (b1 && b2) H) : tAnd tA tB σ H Q := by
  refine h1 _ ?_
  cases b1 with
  | true => exact iteT (h2 _ q)
  | false => exact iteF q
theorem ok_l_feed (D : Df K mg "_law_feed" s_l_feed) (B : Bn mg) :
    Has P w K mg base "_law_feed" 1 p_l_feed (spFeedX K) := by
  refine has_of (k := 0) D sc_l_feed bn_l_feed ?_ ?_
  · rintro vs H Q E ⟨sc, ns, rfl, _⟩
    rfl
  · rintro f cdv A outer s H vs Q E hr ⟨sc, ns, rfl, hS, hl, k⟩
    refine ⟨_, (pss_one (ps_ret (pe_disp (pps_cons pe_str (pe_callTy (call_listK (K := K) (by rfl)) (by rfl) B.list_ (by decide +kernel) (pa_cons (pe_slice (sl_listK (K := K) (by rfl)) (pv 0) po_none (po_some pe_int)) pa_nil)) (pps_cons pe_str pe_int (pps_cons pe_str pe_int (pps_cons pe_str pe_int pps_nil)))) rfl rfl (by simp) (by decide)))), ?_⟩
    obtain ⟨ms, e, hm⟩ := cut_ints ns none (some 63)
    intro a na
    have e1 := Same.new (o := .dK []) na
    refine ⟨_, rfl, _, rfl, sc, _, rfl, sql_same e1 hS, fun q nq => ?_⟩
    have nqa : q ≠ a := fun z => by
      rw [z, upd_same] at nq
      cases nq
    have nq0 : H q = none := by
      rw [upd_ne nqa] at nq
      exact nq
    refine ⟨q, _, rfl, .inl (SqL.of upd_same), fun l nl => ?_⟩
    have nlq : l ≠ q := fun z => by
      rw [z, upd_same] at nl
      cases nl
    have nl1 := nl
    rw [upd_ne nlq] at nl1
    have nla : l ≠ a := fun z => by
      rw [z, upd_same] at nl1
      cases nl1
    have nl0 : H l = none := by
      rw [upd_ne nla] at nl1
      exact nl1
    have h2a : upd (upd (upd H a (.dK [])) q (.lst (cutV (ns.map V.int) none (some 63)))) l (.lst (cutV (ns.map V.int) none (some 63))) a = some (.dK []) := by
      rw [upd_ne nla.symm, upd_ne nqa.symm, upd_same]
    refine ⟨h2a, fdK l 0 0 0, rfl, by show 4 ≤ 15; decide, ?_⟩
    have em : mergeK [] (fdK l 0 0 0) = fdK l 0 0 0 := by simp [mergeK, putK, fdK, kn_cells_at, kn_cells_left, kn_cells_turn, kn_at_cells, kn_at_left, kn_at_turn, kn_left_cells, kn_left_at, kn_left_turn, kn_turn_cells, kn_turn_at, kn_turn_left]
    rw [em]
    refine k a l _ na nl0 ?_ ⟨ms, 0, 0, 0, upd_same, ?_, by omega, by omega, by omega, by omega, by omega⟩
    · intro b o hb
      have nb : b ≠ a := fun z => by
        rw [z, na] at hb
        cases hb
      rw [upd_ne nb]
      have nbl : b ≠ l := fun z => by
        rw [z, nl0] at hb
        cases hb
      have nbq : b ≠ q := fun z => by
        rw [z, nq0] at hb
        cases hb
      rw [upd_ne nbl, upd_ne nbq, upd_ne nb]
      exact hb
    · rw [upd_ne nla, upd_same, e]
theorem ok_l_draw (D : Df K mg "_law_draw" s_l_draw) (B : Bn mg) :
    Has P w K mg base "_law_draw" 1 p_l_draw spDrawX := by
  refine has_of (k := 0) D sc_l_draw bn_l_draw ?_ ?_
  · rintro vs H Q E ⟨a, s, m, n, rfl, _⟩
    rfl
  · rintro f cdv A outer s0 H vs Q E hr ⟨a, s, m, n, rfl, ⟨ns, p, l, c, ha, hs, hl, hp, hl0, hc, hcn⟩, hn, hm1, hm2, k⟩
    have nsa : s ≠ a := fun z => by
      rw [z, ha] at hs
      cases hs
    refine ⟨_, (pss_cons (ps_par (i := 2) (j := 3) (by rfl) sc_l_draw.nd rfl rfl (by decide) rfl rfl (pa_cons (pe_dget (by have hu_ := hr.units; exact (show (A.deeper _).units + 1 < cLine by omega)) (pv 0) pe_str (fun _ _ => rfl)) (pa_cons (pe_op op_add (pe_dget (by have hu_ := hr.units; exact (show (A.deeper _).units + 1 < cLine by omega)) (pv 0) pe_str (fun _ _ => rfl)) pe_int) pa_nil)) (by rfl))
      (pss_cons (ps_dput (by have hu_ := hr.units; exact (show (A.deeper _).units + 1 < cLine by omega)) (pv 0) pe_str (pv 3) (by rfl))
      (pss_cons (ps_while PassesOwn.never (PW.pt (pw_and (pt_cmpR op_eq (pe_dget (by have hu_ := hr.units; exact (show (A.deeper _).units + 1 < cLine by omega)) (pv 0) pe_str (fun _ _ => rfl)) pe_int (nomark _)) (pw_and1 (pt_cmpR op_lt (pe_dget (by have hu_ := hr.units; exact (show (A.deeper _).units + 1 < cLine by omega)) (pv 0) pe_str (fun _ _ => rfl)) (pe_callB (call_lenK (K := K) (by rfl)) (by rfl) B.len_ (by decide +kernel) (pa_cons (pv 2) pa_nil)) (nomark _))))) (pss_cons (ps_dput (by have hu_ := hr.units; exact (show (A.deeper _).units + 1 < cLine by omega)) (pv 0) pe_str (pe_op op_fdivW (pe_callB call_abs (by rfl) B.abs_ (by decide +kernel) (pa_cons (pe_ix (ix_listK (K := K) (by rfl)) (pv 2) (pe_dget (by have hu_ := hr.units; exact (show (A.deeper _).units + 1 < cLine by omega)) (pv 0) pe_str (fun _ _ => rfl)) (fun _ _ => rfl)) pa_nil)) (pe_op op_pow pe_int pe_int)) (by rfl))
      (pss_one (ps_dput (by have hu_ := hr.units; exact (show (A.deeper _).units + 1 < cLine by omega)) (pv 0) pe_str (pe_op op_add (pe_dget (by have hu_ := hr.units; exact (show (A.deeper _).units + 1 < cLine by omega)) (pv 0) pe_str (fun _ _ => rfl)) pe_int) (by rfl)))))
      (pss_cons (ps_if (pt_cmpR op_gt (pe_dget (by have hu_ := hr.units; exact (show (A.deeper _).units + 1 < cLine by omega)) (pv 0) pe_str (fun _ _ => rfl)) pe_int (nomark _)) (pss_cons (ps_asg (pe_op op_modN (pe_dget (by have hu_ := hr.units; exact (show (A.deeper _).units + 1 < cLine by omega)) (pv 0) pe_str (fun _ _ => rfl)) (pv 1)) (pg_name (i := 4) sc_l_draw.nd rfl (by first | exact Or.inl rfl | exact Or.inr rfl)))
      (pss_cons (ps_dput (by have hu_ := hr.units; exact (show (A.deeper _).units + 1 < cLine by omega)) (pv 0) pe_str (pe_op op_fdivN (pe_dget (by have hu_ := hr.units; exact (show (A.deeper _).units + 1 < cLine by omega)) (pv 0) pe_str (fun _ _ => rfl)) (pv 1)) (by rfl))
      (pss_one (ps_ret (pv 4))))) pss_nil)
      (pss_cons (ps_asg (pe_ifExp (pt_cmpR (op_neK (K := K) (by rfl) hr.units) (pv 2) (pe_lst pa_nil) (nomark _)) (pe_ix (ix_listK (K := K) (by rfl)) (pv 2) (pe_op op_modN (pv 3) (pe_callB (call_lenK (K := K) (by rfl)) (by rfl) B.len_ (by decide +kernel) (pa_cons (pv 2) pa_nil))) (fun _ _ => rfl)) pe_int) (pg_name (i := 5) sc_l_draw.nd rfl (by first | exact Or.inl rfl | exact Or.inr rfl)))
      (pss_cons (ps_asg (pe_op op_modN (pe_op op_mul (pe_op op_add (pe_op op_modN (pv 5) pe_int) pe_int) (pe_op op_add (pe_op op_mul pe_int (pv 3)) pe_int)) pe_int) (pg_name (i := 6) sc_l_draw.nd rfl (by first | exact Or.inl rfl | exact Or.inr rfl)))
      (pss_cons (ps_asg (pe_op op_modN (pe_op op_mul (pe_op op_add (pe_op op_modN (pe_op op_pow (pv 6) pe_int) pe_int) (pe_op op_mul (pe_op op_mul pe_int (pv 3)) (pv 3))) pe_int) pe_int) (pg_name (i := 6) sc_l_draw.nd rfl (by first | exact Or.inl rfl | exact Or.inr rfl)))
      (pss_one (ps_ret (pe_op op_modN (pe_op op_fdivN (pv 6) pe_int) (pv 1))))))))))), ?_⟩
    refine ⟨_, rfl, a, _, rfl, dg_cells ha, _, rfl, a, _, rfl, dg_turn ha, _, _, rfl, rfl, _, _, rfl, ?_⟩
    refine ⟨_, rfl, _, rfl, a, _, rfl, dp_turn ha (c + 1), ?_⟩
    refine while_by (fun σ H' => ∃ (p l : Int), σ = [some (.ref a), some (.int m), some (.ref s), some (.int (c + 1)), none, none, none] ∧ H' a = some (.dK (fdK s p l (c + 1))) ∧ H' s = some (.lst (ns.map V.int)) ∧ Sb a H H' ∧ 0 ≤ p ∧ 0 ≤ l)
      (fun _ H' => match H' a with | some (.dK [_, (_, .int p), _, _]) => (64 - p).toNat | _ => 0) ?_ ?_ ?_
    · refine ⟨p, l, rfl, upd_same, ?_, Sb.own (Sb.refl a H), hp, hl0⟩
      rw [upd_ne nsa]
      exact hs
    · rintro σ H1 ⟨p, l, rfl, h1a, h1s, sb1, hp, hl0⟩
      refine tAnd_dec (b1 := decide (V.int l = V.int 0)) (b2 := decide (p < ((ns.map V.int).length : Int))) (fun Q1 q1 => ⟨_, rfl, a, _, rfl, dg_left h1a, rfl, _, rfl, q1⟩)
        (fun Q1 q1 => ⟨_, rfl, a, _, rfl, dg_at h1a, _, rfl, s, _, rfl, .inl (SqL.of h1s), _, _, rfl, rfl, _, rfl, q1⟩) ?_
      refine ite2 (fun hb => ?_) (fun hb => ?_)
      · rw [Bool.and_eq_true] at hb
        have hlt := of_decide_eq_true hb.2
        obtain ⟨z, hz⟩ := at_ints (ns := ns) (i := p) hp (by rw [List.length_map] at hlt; exact hlt)
        refine ⟨_, rfl, _, rfl, a, _, rfl, dg_at h1a, s, _, _, _, rfl, rfl, SqL.of h1s, hz, _, rfl, _, _, rfl, rfl, ⟨by decide, by decide, by decide⟩, _, _, rfl, rfl, ⟨by decide, by decide +kernel⟩, _, rfl, a, _, rfl, dp_left h1a _, ?_⟩
        have h2a : upd H1 a (.dK (fdK s p ((if z < 0 then -z else z) / 10 ^ Int.toNat 18) (c + 1))) a = some (.dK (fdK s p ((if z < 0 then -z else z) / 10 ^ Int.toNat 18) (c + 1))) := upd_same
        refine ⟨_, rfl, a, _, rfl, dg_at h2a, _, _, rfl, rfl, _, rfl, a, _, rfl, dp_at h2a _, ?_⟩
        refine ⟨⟨p + 1, _, rfl, upd_same, ?_, Sb.own (Sb.own sb1), by omega, ?_⟩, ?_⟩
        · rw [upd_ne nsa, upd_ne nsa]
          exact h1s
        · refine Int.ediv_nonneg ?_ (by decide)
          split <;> omega
        · rw [upd_same, h1a]
          rw [List.length_map] at hlt
          show (64 - (p + 1)).toNat < (64 - p).toNat
          omega
      · refine ⟨_, rfl, a, _, rfl, dg_left h1a, _, _, rfl, rfl, _, rfl, ?_⟩
        refine ite2 (fun hpos => ?_) (fun _ => ?_)
        · refine ⟨_, rfl, a, _, rfl, dg_left h1a, _, rfl, _, _, rfl, rfl, (by omega), ?_⟩
          refine ⟨_, rfl, a, _, rfl, dg_left h1a, _, rfl, _, _, rfl, rfl, ⟨by omega, by omega⟩, _, rfl, a, _, rfl, dp_left h1a _, ?_⟩
          refine ⟨_, rfl, ?_⟩
          refine k _ _ (fmod_nn (by omega)) (fmod_lt' (by omega)) (Sb.own sb1) ⟨ns, p, _, c + 1, upd_same, ?_, hl, hp, ?_, by omega, by omega⟩
          · rw [upd_ne nsa]
            exact h1s
          · rw [Int.fdiv_eq_ediv_of_nonneg _ (by omega)]
            exact Int.ediv_nonneg hl0 (by omega)
        · have last : ∀ (z : Int) (H2 : Hp), H2 a = some (.dK (fdK s p l (c + 1))) → H2 s = some (.lst (ns.map V.int)) → Sb a H H2 → ∀ r : Int, 0 ≤ r → r < m → Q (.int r) H2 := fun z H2 h2a h2s sb2 r r0 r1 =>
            k r H2 r0 r1 sb2 ⟨ns, p, l, c + 1, h2a, h2s, hl, hp, hl0, by omega, by omega⟩
          refine ⟨_, rfl, by show 0 ≤ sizeLine; decide, fun q nq => ?_⟩
          have nqa : q ≠ a := fun z => by
            rw [z, h1a] at nq
            cases nq
          have nqs : q ≠ s := fun z => by
            rw [z, h1s] at nq
            cases nq
          have h2a := upd_ne (H := H1) (o := .lst []) nqa.symm
          have h2s := upd_ne (H := H1) (o := .lst []) nqs.symm
          rw [h1a] at h2a
          rw [h1s] at h2s
          have sb2 := Sb.trans sb1 (Sb.new (a := a) (o := .lst []) nq)
          refine ⟨.list (ns.map PyData.int), .list [], .lst (SqL.of h2s) (dp_ints ns), .lst (SqL.of upd_same) .nil, ints_shaped ns, ints_shaped [], ?_⟩
          refine ⟨_, rfl, ?_⟩
          rw [ints_nil]
          have fin : ∀ z : Int, True := fun _ => trivial
          refine ite2 (fun he => ?_) (fun he => ?_)
          · have hne : ns ≠ [] := by
              intro z
              rw [decide_eq_true z] at he
              cases he
            have hpos : 0 < ns.length := List.length_pos_iff.mpr hne
            obtain ⟨z, hz⟩ := at_ints (ns := ns) (i := (c + 1).fmod ((ns.map V.int).length : Int)) (fmod_nn (by rw [List.length_map]; omega))
              (by
                have := fmod_lt' (a := c + 1) (b := ((ns.map V.int).length : Int)) (by rw [List.length_map]; omega)
                rw [List.length_map] at this ⊢
                exact this)
            refine ⟨_, rfl, _, rfl, _, rfl, s, _, rfl, .inl (SqL.of h2s), _, _, rfl, rfl, (by rw [List.length_map]; omega), s, _, _, _, rfl, rfl, SqL.of h2s, hz, ?_⟩
            have f1 := fmod_nn (a := z) (b := 2147483647) (by omega)
            have f2 := fmod_lt' (a := z) (b := 2147483647) (by omega)
            refine ⟨_, rfl, _, _, rfl, rfl, (by omega), _, _, rfl, rfl, _, rfl, _, _, rfl, rfl, .inl ⟨by omega, by omega⟩, _, _, rfl, rfl, _, _, rfl, rfl, .inl ⟨by omega, by omega⟩, _, _, rfl, rfl, (by omega), ?_⟩
            have y0 := fmod_nn (a := (z.fmod 2147483647 + 1) * (48271 * (c + 1) + 11)) (b := 2147483647) (by omega)
            have y1 := fmod_lt' (a := (z.fmod 2147483647 + 1) * (48271 * (c + 1) + 11)) (b := 2147483647) (by omega)
            refine ⟨_, rfl, _, _, rfl, rfl, ⟨by decide, by decide, by omega⟩, _, _, rfl, rfl, (by omega), _, rfl, _, _, rfl, rfl, .inl ⟨by omega, by omega⟩, _, rfl, _, _, rfl, rfl, .inr ⟨by omega, by omega⟩, _, _, rfl, rfl, _, _, rfl, rfl, .inr ⟨by omega, by omega⟩, _, _, rfl, rfl, (by omega), ?_⟩
            refine ⟨_, rfl, _, _, rfl, rfl, ⟨by omega, by omega⟩, _, rfl, _, _, rfl, rfl, (by omega), ?_⟩
            exact last 0 _ h2a h2s sb2 _ (fmod_nn (by omega)) (fmod_lt' (by omega))
          · obtain ⟨z, hz⟩ : ∃ z : Int, z = 0 := ⟨0, rfl⟩
            rw [← hz]
            have f1 := fmod_nn (a := z) (b := 2147483647) (by omega)
            have f2 := fmod_lt' (a := z) (b := 2147483647) (by omega)
            refine ⟨_, rfl, _, _, rfl, rfl, (by omega), _, _, rfl, rfl, _, rfl, _, _, rfl, rfl, .inl ⟨by omega, by omega⟩, _, _, rfl, rfl, _, _, rfl, rfl, .inl ⟨by omega, by omega⟩, _, _, rfl, rfl, (by omega), ?_⟩
            have y0 := fmod_nn (a := (z.fmod 2147483647 + 1) * (48271 * (c + 1) + 11)) (b := 2147483647) (by omega)
            have y1 := fmod_lt' (a := (z.fmod 2147483647 + 1) * (48271 * (c + 1) + 11)) (b := 2147483647) (by omega)
            refine ⟨_, rfl, _, _, rfl, rfl, ⟨by decide, by decide, by omega⟩, _, _, rfl, rfl, (by omega), _, rfl, _, _, rfl, rfl, .inl ⟨by omega, by omega⟩, _, rfl, _, _, rfl, rfl, .inr ⟨by omega, by omega⟩, _, _, rfl, rfl, _, _, rfl, rfl, .inr ⟨by omega, by omega⟩, _, _, rfl, rfl, (by omega), ?_⟩
            refine ⟨_, rfl, _, _, rfl, rfl, ⟨by omega, by omega⟩, _, rfl, _, _, rfl, rfl, (by omega), ?_⟩
            exact last 0 _ h2a h2s sb2 _ (fmod_nn (by omega)) (fmod_lt' (by omega))
    · rintro σ H' Q1 Q2 hq h
      obtain ⟨v, h1, a1, x, h2, h3, h4, b, h5, h6⟩ := h
      refine ⟨v, h1, a1, x, h2, h3, h4, b, h5, ?_⟩
      cases b with
      | true =>
        refine iteT ?_
        rw [if_pos rfl] at h6
        obtain ⟨v2, g1, a2, x2, g2, g3, v3, g4, p3, y3, g5, g6, i3, j3, g7, g8, b3, g9, g10⟩ := h6
        exact ⟨v2, g1, a2, x2, g2, g3, v3, g4, p3, y3, g5, g6, i3, j3, g7, g8, b3, g9, hq _ _ g10⟩
      | false =>
        refine iteF ?_
        rw [if_neg (by decide)] at h6
        exact hq _ _ h6

end K55

set_option Elab.async false
set_option linter.all false
set_option maxRecDepth 100000
set_option maxHeartbeats 1000000
namespace K55
open PySem PySem.Spec PyProof.Rows L2 Gd
variable {P : Program} {w : World} {K : PySem.W.Frag} {mg : Str → Option Value} {base : Heap}
theorem dpa_bls {K : PySem.W.Frag} {H : Hp} : ∀ (bs : List Bool) (xs : List V), DpAll K H xs (bs.map PyData.bool) → xs = bs.map V.bl
  | [], xs, h => dpa_nil h
  | b :: bs, xs, h => by
    obtain ⟨v, vs, rfl, h1, h2⟩ := dpa_cons h
    cases h1
    rw [dpa_bls bs vs h2]
    rfl
theorem blsT {K : PySem.W.Frag} {H : Hp} {ys : List V} {n : Nat} (h : DpAll K H ys ((List.range n).map fun _ => PyData.bool true)) : ys = ((List.range n).map fun _ => true).map V.bl := by
  refine dpa_bls (K := K) (H := H) _ _ ?_
  rw [List.map_map]
  exact h
theorem all_true {n : Nat} : ((List.range n).map fun _ => true).all id = true := by
  rw [List.all_eq_true]
  intro b hb
  obtain ⟨_, _, rfl⟩ := List.mem_map.mp hb
  rfl

def spIsNumD (K : PySem.W.Frag) : Sp := fun vs H Q _ => ∃ (v : V) (d : PyData), vs = [v] ∧ Dp K H v d ∧ Q (.bl (isNum d)) H
theorem ok_is_number (D : Df K mg "is_number" s_is_number) (B : Bn mg) : Has P w K mg base "is_number" 1 p_is_number (spIsNumD K) := by
  refine has_of (k := 0) D sc_is_number bn_is_number ?_ ?_
  · rintro vs H Q E ⟨v, d, rfl, _⟩
    rfl
  rintro f cdv A outer s0 H vs Q E hr ⟨v, d, rfl, hd, k⟩
  refine ⟨_, (pss_one (ps_ret (pe_and (pe_callB (call_isiK (K := K) (by rfl)) (by rfl) B.isinstance_ (by decide +kernel) (pa_cons (pv 0) (pa_cons (pe_bltn (v := .ty "int") (u := .type "int") (by rfl) B.int_ (by decide +kernel) rfl) pa_nil))) (pe_one (pe_not (pe_callB (call_isiK (K := K) (by rfl)) (by rfl) B.isinstance_ (by decide +kernel) (pa_cons (pv 0) (pa_cons (pe_bltn (v := .ty "bool") (u := .type "bool") (by rfl) B.bool_ (by decide +kernel) rfl) pa_nil)))))))), ?_⟩
  refine ⟨_, rfl, ?_⟩
  dsimp only [tCons, tC, tNil]
  refine isi_int hd ⟨_, rfl, ?_⟩
  cases d with
  | int i =>
    refine iteT ⟨_, rfl, ?_⟩
    dsimp only [tCons, tC, tNil]
    exact isi_bool hd ⟨_, rfl, k⟩
  | bool b =>
    refine iteT ⟨_, rfl, ?_⟩
    dsimp only [tCons, tC, tNil]
    exact isi_bool hd ⟨_, rfl, k⟩
  | none => exact iteF k
  | str x => exact iteF k
  | list ds => exact iteF k
  | tuple ds => exact iteF k
  | dict _ => cases hd
def spIsRowD (K : PySem.W.Frag) : Sp := fun vs H Q _ => ∃ (n : Int) (v : V) (d : PyData), vs = [.int n, v] ∧ Dp K H v d ∧ fz d ≤ 8000 ∧ ∀ H', Same H H' → Q (.bl (isRowD n d)) H'
theorem range_all {α : Type} (ds : List α) (e : α) (f : α → Bool) : ((List.range ds.length).map fun i => f (ds.getD i e)).all id = ds.all f := by
  rw [range_getD ds e f, List.all_map]
  rfl
theorem blsF {K : PySem.W.Frag} {H : Hp} {ys : List V} {n : Nat} {f : Nat → Bool} (h : DpAll K H ys ((List.range n).map fun i => PyData.bool (f i))) : ys = ((List.range n).map f).map V.bl := by
  refine dpa_bls (K := K) (H := H) _ _ ?_
  rw [List.map_map]
  exact h
theorem data_at {ds : List PyData} {i : Nat} {d : PyData} (h : ds[i]? = some d) {e : PyData} : ds.getD i e = d := by
  rw [List.getD_eq_getElem?_getD, h]
  rfl
theorem ok_is_row (D : Df K mg "is_row" s_is_row) (B : Bn mg) (h_is_number : Has P w K mg base "is_number" 1 p_is_number (spIsNumD K)) :
    Has P w K mg base "is_row" 2 p_is_row (spIsRowD K) := by
  refine has_of (k := 1) D sc_is_row bn_is_row ?_ ?_
  · rintro vs H Q E ⟨n, v, d, rfl, _⟩
    rfl
  rintro f cdv A outer s0 H vs Q E hr ⟨n, v, d, rfl, hd, hz, k⟩
  refine ⟨_, (Evl.pss_cut (ps_if (PW.pt (pw_or (pt_not (pt_val (pe_callB (call_isiK (K := K) (by rfl)) (by rfl) B.isinstance_ (by decide +kernel) (pa_cons (pv 1) (pa_cons (pe_bltn (v := .ty "tuple") (u := .type "tuple") (by rfl) B.tuple_ (by decide +kernel) rfl) pa_nil))))) (pw_or1 (pt_cmpR op_ne (pe_callB (call_lenK (K := K) (by rfl)) (by rfl) B.len_ (by decide +kernel) (pa_cons (pv 1) pa_nil)) (pv 0) (nomark _))))) (pss_one (ps_ret pe_bl)) pss_nil)
      (pss_one (ps_ret (pe_callB (call_allK (K := K) (by rfl) (by rfl)) (by rfl) B.all_ (by decide +kernel) (pa_cons (pe_lc (own := [("number", 2)]) rfl sc_is_row.nd (pi_tupK (K := K) (by rfl) (pv 1)) (blkOk_by (own := [("number", 2)]) (N := n_is_row) (sc := defScope s_is_row) (by decide +kernel)) (fun _ _ _ _ _ => (pg_name (i := 2) sc_is_row.nd rfl (by first | exact Or.inl rfl | exact Or.inr rfl))) (fun _ _ _ _ _ => pts_nil) (fun _ _ _ _ _ => (pe_has (h_is_number) (hr.mono (by first | decide | omega)) (by rfl) (pa_cons (pv 2) pa_nil)))) pa_nil))))), ?_⟩
  rcases tup_or d with hT | ⟨ds, rfl⟩
  · refine ⟨fun _ _ => False, ?_, fun _ _ h => h.elim⟩
    refine ⟨_, rfl, ?_⟩
    dsimp only [tCons, tC, tNil]
    refine isi_tuple hd ?_
    rw [hT]
    refine ⟨_, rfl, iteT ?_⟩
    have := k H (Same.refl H)
    rw [show isRowD n d = false from by cases d <;> first | rfl | cases hT] at this
    exact this
  · obtain ⟨a, xs, rfl, hs, ha⟩ := dp_tup hd
    have hl := dpa_len _ _ ha
    have hz2 := fzAll_len ds
    simp only [fz] at hz
    by_cases hn : (ds.length : Int) = n
    · refine ⟨fun σ' H' => H' = H ∧ σ' = [some (.int n), some (.ref a), none], ?_, ?_⟩
      · refine ⟨_, rfl, ?_⟩
        dsimp only [tCons, tC, tNil]
        refine isi_tuple hd ⟨_, rfl, iteF ?_⟩
        refine ⟨_, rfl, a, _, rfl, .inr hs, _, rfl, rfl, _, rfl, ?_⟩
        exact iteNS (by rw [hl, hn]) ⟨rfl, rfl⟩
      · rintro σ' H' ⟨rfl, rfl⟩
        refine ⟨_, rfl, a, rfl, ⟨_, hs⟩, fun D1 hD1 => ?_⟩
        refine lct (K := K) (j := 2) (fun c => .bool (isNum (ds.getD c .none))) hD1 hs (by omega) (fun _ _ => by simp [tupOnly]) (fun _ => rfl) ?_ ?_
        · intro i x H1 Q1 hx e1 k1
          obtain ⟨d, hd1, hd2⟩ := dpa_get _ _ i x ha hx
          refine ⟨_, rfl, x, d, rfl, Dp.same e1 _ _ hd2, k1 _ _ (Same.refl _) ?_⟩
          rw [data_at hd1]
          exact .bl _
        · intro H1 ys e1 h1 hd1
          have ey := blsF hd1
          subst ey
          refine ⟨D1, _, rfl, SqL.of h1, ?_⟩
          rw [hl, range_all ds .none isNum]
          have := k _ e1
          simp only [isRowD, decide_eq_true hn, Bool.true_and] at this
          exact this
    · refine ⟨fun _ _ => False, ?_, fun _ _ h => h.elim⟩
      refine ⟨_, rfl, ?_⟩
      dsimp only [tCons, tC, tNil]
      refine isi_tuple hd ⟨_, rfl, iteF ?_⟩
      refine ⟨_, rfl, a, _, rfl, .inr hs, _, rfl, rfl, _, rfl, ?_⟩
      have e : (!decide (V.int (xs.length : Int) = V.int n)) = true := by
        rw [decide_eq_false (fun z => hn (by have := V.int.inj z; omega))]
        rfl
      rw [e]
      refine iteT ?_
      have := k H (Same.refl H)
      simp only [isRowD, decide_eq_false hn, Bool.false_and] at this
      exact this
def spIsTabD (K : PySem.W.Frag) : Sp := fun vs H Q _ => ∃ (v : V) (d : PyData), vs = [v] ∧ Dp K H v d ∧ fz d ≤ 8000 ∧ ∀ H', Same H H' → Q (.bl (isTabD d)) H'
theorem tab_len {ds : List PyData} (h : ds.length ≠ 2) : isTabD (.tuple ds) = false := by
  match ds with
  | [] => rfl
  | [_] => simp [isTabD]
  | [_, _] => exact absurd rfl h
  | _ :: _ :: _ :: _ => simp [isTabD]
theorem tab_num {d e : PyData} (h : isNum d = false) : isTabD (.tuple [d, e]) = false := by
  cases d <;> first | rfl | cases h
theorem num_int {d : PyData} (h : isNum d = true) : ∃ i, d = .int i := by
  cases d <;> first | exact ⟨_, rfl⟩ | cases h
theorem two_of {ds : List PyData} (h : ds.length = 2) : ∃ d e, ds = [d, e] := by
  match ds, h with
  | [d, e], _ => exact ⟨d, e, rfl⟩
theorem ok_is_table (D : Df K mg "is_table" s_is_table) (B : Bn mg) (h_is_number : Has P w K mg base "is_number" 1 p_is_number (spIsNumD K)) (h_is_row : Has P w K mg base "is_row" 2 p_is_row (spIsRowD K)) :
    Has P w K mg base "is_table" 3 p_is_table (spIsTabD K) := by
  refine has_of (k := 2) D sc_is_table bn_is_table ?_ ?_
  · rintro vs H Q E ⟨v, d, rfl, _⟩
    rfl
  rintro f cdv A outer s0 H vs Q E hr ⟨v, d, rfl, hd, hz, k⟩
  refine ⟨_, (Evl.pss_cut (ps_if (PW.pt (pw_or (pt_not (pt_val (pe_callB (call_isiK (K := K) (by rfl)) (by rfl) B.isinstance_ (by decide +kernel) (pa_cons (pv 0) (pa_cons (pe_bltn (v := .ty "tuple") (u := .type "tuple") (by rfl) B.tuple_ (by decide +kernel) rfl) pa_nil))))) (pw_or1 (pt_cmpR op_ne (pe_callB (call_lenK (K := K) (by rfl)) (by rfl) B.len_ (by decide +kernel) (pa_cons (pv 0) pa_nil)) pe_int (nomark _))))) (pss_one (ps_ret pe_bl)) pss_nil)
      (pss_cons (ps_asg (pv 0) (pg_tupK (K := K) (n := 2) (by rfl) (by rfl) (pgs_cons (pg_name (i := 1) sc_is_table.nd rfl (by first | exact Or.inl rfl | exact Or.inr rfl)) (pgs_cons (pg_name (i := 2) sc_is_table.nd rfl (by first | exact Or.inl rfl | exact Or.inr rfl)) pgs_nil))))
      (Evl.pss_cut (ps_if (PW.pt (pw_or (pt_not (pt_val (pe_has (h_is_number) (hr.mono (by first | decide | omega)) (by rfl) (pa_cons (pv 1) pa_nil)))) (pw_or (pt_cmpR op_lt (pv 1) pe_int (nomark _)) (pw_or1 (pt_not (pt_val (pe_callB (call_isiK (K := K) (by rfl)) (by rfl) B.isinstance_ (by decide +kernel) (pa_cons (pv 2) (pa_cons (pe_bltn (v := .ty "tuple") (u := .type "tuple") (by rfl) B.tuple_ (by decide +kernel) rfl) pa_nil))))))))) (pss_one (ps_ret pe_bl)) pss_nil)
      (pss_one (ps_ret (pe_callB (call_allK (K := K) (by rfl) (by rfl)) (by rfl) B.all_ (by decide +kernel) (pa_cons (pe_lc (own := [("row", 3)]) rfl sc_is_table.nd (pi_tupK (K := K) (by rfl) (pv 2)) (blkOk_by (own := [("row", 3)]) (N := n_is_table) (sc := defScope s_is_table) (by decide +kernel)) (fun _ _ _ _ _ => (pg_name (i := 3) sc_is_table.nd rfl (by first | exact Or.inl rfl | exact Or.inr rfl))) (fun _ _ _ _ _ => pts_nil) (fun _ _ _ _ _ => (pe_has (h_is_row) (hr.mono (by first | decide | omega)) (by rfl) (pa_cons (pv 1) (pa_cons (pv 3) pa_nil))))) pa_nil))))))), ?_⟩
  rcases tup_or d with hT | ⟨ds, rfl⟩
  · refine ⟨fun _ _ => False, ?_, fun _ _ h => h.elim⟩
    refine ⟨_, rfl, ?_⟩
    dsimp only [tCons, tC, tNil]
    refine isi_tuple hd ?_
    rw [hT]
    refine ⟨_, rfl, iteT ?_⟩
    have := k H (Same.refl H)
    rw [show isTabD d = false from by cases d <;> first | rfl | cases hT] at this
    exact this
  · obtain ⟨a, xs, rfl, hs, ha⟩ := dp_tup hd
    have hl := dpa_len _ _ ha
    by_cases hn : ds.length = 2
    · obtain ⟨d0, d1, rfl⟩ := two_of hn
      obtain ⟨x0, t0, rfl, q0, ha⟩ := dpa_cons ha
      obtain ⟨x1, t1, rfl, q1, ha⟩ := dpa_cons ha
      have et := dpa_nil ha
      subst et
      refine ⟨fun σ' H' => H' = H ∧ σ' = [some (.ref a), none, none, none], ?_, ?_⟩
      · refine ⟨_, rfl, ?_⟩
        dsimp only [tCons, tC, tNil]
        refine isi_tuple hd ⟨_, rfl, iteF ?_⟩
        refine ⟨_, rfl, a, _, rfl, .inr hs, rfl, _, rfl, ?_⟩
        exact iteNS rfl ⟨rfl, rfl⟩
      · rintro σ' H' ⟨rfl, rfl⟩
        refine ⟨_, rfl, a, _, rfl, hs, rfl, _, _, rfl, _, _, rfl, rfl, ?_⟩
        by_cases hnum : isNum d0 = true
        · obtain ⟨wd, rfl⟩ := num_int hnum
          cases q0
          by_cases hneg : wd < 0
          · refine ⟨fun _ _ => False, ?_, fun _ _ h => h.elim⟩
            refine ⟨_, rfl, _, _, rfl, .int wd, _, rfl, iteF ?_⟩
            refine ⟨_, rfl, _, _, rfl, rfl, _, rfl, ?_⟩
            rw [decide_eq_true hneg]
            refine iteT ?_
            have := k H' (Same.refl H')
            rw [show isTabD (.tuple [.int wd, d1]) = false from by
              cases d1 <;> first | rfl | (simp only [isTabD, decide_eq_false (show ¬ 0 ≤ wd by omega), Bool.false_and])] at this
            exact this
          · rcases tup_or d1 with hT1 | ⟨rows, rfl⟩
            · refine ⟨fun _ _ => False, ?_, fun _ _ h => h.elim⟩
              refine ⟨_, rfl, _, _, rfl, .int wd, _, rfl, iteF ?_⟩
              refine ⟨_, rfl, _, _, rfl, rfl, _, rfl, ?_⟩
              rw [decide_eq_false hneg]
              refine iteF ?_
              refine ⟨_, rfl, ?_⟩
              dsimp only [tCons, tC, tNil]
              refine isi_tuple q1 ?_
              rw [hT1]
              refine ⟨_, rfl, iteT ?_⟩
              have := k H' (Same.refl H')
              rw [show isTabD (.tuple [.int wd, d1]) = false from by cases d1 <;> first | rfl | cases hT1] at this
              exact this
            · obtain ⟨pr, ys, rfl, hys, hya⟩ := dp_tup q1
              have hly := dpa_len _ _ hya
              have hz2 := fzAll_len rows
              simp only [fz, fzAll] at hz
              refine ⟨fun σ2 H2 => H2 = H' ∧ σ2 = [some (.ref a), some (.int wd), some (.ref pr), none], ?_, ?_⟩
              · refine ⟨_, rfl, _, _, rfl, .int wd, _, rfl, iteF ?_⟩
                refine ⟨_, rfl, _, _, rfl, rfl, _, rfl, ?_⟩
                rw [decide_eq_false hneg]
                refine iteF ?_
                refine ⟨_, rfl, ?_⟩
                dsimp only [tCons, tC, tNil]
                exact isi_tuple q1 ⟨_, rfl, iteF ⟨rfl, rfl⟩⟩
              · rintro σ2 H2 ⟨rfl, rfl⟩
                refine ⟨_, rfl, pr, rfl, ⟨_, hys⟩, fun D1 hD1 => ?_⟩
                refine lct (K := K) (j := 3) (fun c => .bool (isRowD wd (rows.getD c .none))) hD1 hys (by omega) (fun _ _ => by simp [tupOnly]) (fun _ => rfl) ?_ ?_
                · intro i x H1 Q1 hx e1 k1
                  obtain ⟨d, hd1, hd2⟩ := dpa_get _ _ i x hya hx
                  have hzd := fzAll_mem (List.mem_of_getElem? hd1)
                  refine ⟨_, rfl, _, rfl, wd, x, d, rfl, Dp.same e1 _ _ hd2, by omega, fun H3 e3 => k1 _ _ e3 ?_⟩
                  rw [data_at hd1]
                  exact .bl _
                · intro H1 zs e1 h1 hd1
                  have ey := blsF hd1
                  subst ey
                  refine ⟨D1, _, rfl, SqL.of h1, ?_⟩
                  rw [hly, range_all rows .none (isRowD wd)]
                  have := k _ e1
                  simp only [isTabD, decide_eq_true (show 0 ≤ wd by omega), Bool.true_and] at this
                  exact this
        · have hnum : isNum d0 = false := by
            cases h : isNum d0 with
            | true => exact absurd h hnum
            | false => rfl
          refine ⟨fun _ _ => False, ?_, fun _ _ h => h.elim⟩
          refine ⟨_, rfl, _, _, rfl, q0, ?_⟩
          rw [hnum]
          refine ⟨_, rfl, iteT ?_⟩
          have := k H' (Same.refl H')
          rw [tab_num hnum] at this
          exact this
    · refine ⟨fun _ _ => False, ?_, fun _ _ h => h.elim⟩
      refine ⟨_, rfl, ?_⟩
      dsimp only [tCons, tC, tNil]
      refine isi_tuple hd ⟨_, rfl, iteF ?_⟩
      refine ⟨_, rfl, a, _, rfl, .inr hs, rfl, _, rfl, ?_⟩
      have e : (!decide (V.int (xs.length : Int) = V.int 2)) = true := by
        rw [decide_eq_false (fun z => hn (by have := V.int.inj z; omega))]
        rfl
      rw [e]
      refine iteT ?_
      have := k H (Same.refl H)
      rw [tab_len hn] at this
      exact this

theorem int_at {r : List Int} {i : Nat} (h : i < r.length) : (r.map V.int)[i]? = some (.int (r.getD i 0)) := by
  simp [h, List.getD]
/-! ### rounds as mathematics -/
def bareAt (i : Nat) (r : List Int) (n : Nat) : Bool := (List.range n).all fun j => decide (j = i) || decide (r.getD j 0 = 0)
def bareP (rs : List (List Int)) (n : Nat) : Bool := (List.range n).all fun i => bareAt i (rs.getD i []) (rs.getD i []).length
def divM (a b : Int) : Bool := if a = 0 then decide (b = 0) else decide (b.fmod a = 0)
def downsM (wd : Nat) (rs : List (List Int)) : List Int := (List.range (min wd rs.length)).map fun k => (rs.getD k []).getD k 0
def areM (ds : List Int) : Bool := (!(ds.any fun d => decide (d < 0))) && (List.range (ds.length - 1)).all fun i => divM (ds.getD i 0) (ds.getD (i + 1) 0)
def roundsM (wd : Nat) (rs : List (List Int)) : Bool := bareP rs rs.length && areM (downsM wd rs)
theorem bareAt_succ {i : Nat} {r : List Int} {n : Nat} : bareAt i r (n + 1) = (bareAt i r n && (decide (n = i) || decide (r.getD n 0 = 0))) := by
  unfold bareAt
  rw [List.range_succ, List.all_append]
  simp
theorem bareP_succ {rs : List (List Int)} {n : Nat} : bareP rs (n + 1) = (bareP rs n && bareAt n (rs.getD n []) (rs.getD n []).length) := by
  unfold bareP
  rw [List.range_succ, List.all_append]
  simp
/-! ### a comprehension over the pairs of an enumerated tuple -/
theorem lcGe {K : PySem.W.Frag} {a : Addr} {xs : List V} {Bd : V → Hp → (Hp → Prop) → Prop} {H1 : Hp} {Qd : Hp → Prop} (Pv : Nat → Hp → Prop) (h0 : Pv 0 H1) (hl : ∀ i H, i ≤ xs.length → Pv i H → SqT K H a xs)
    (hs : ∀ i x H T, xs[i]? = some x → Pv i H → H T = none → Bd (.ref T) (upd H T (.tup [.int (i : Nat), x])) (Pv (i + 1))) (hd : ∀ H, Pv xs.length H → Qd H) :
    ∃ W : Nat → Nat → Hp → Prop, (∃ m, W 0 m H1) ∧ ∀ i m H, W i m H →
      ((ItE K a).stop i H ∧ Qd H) ∨ ((ItE K a).go i H ∧ ∃ Nx : Hp → Prop, (∀ H', Nx H' → ∃ m', m' < m ∧ W (i + 1) m' H') ∧ ∀ x H', (ItE K a).yld i H x H' → Bd x H' Nx) := by
  refine ⟨fun i m H => m = xs.length - i ∧ i ≤ xs.length ∧ Pv i H, ⟨xs.length, by simp, Nat.zero_le _, h0⟩, ?_⟩
  rintro i m H ⟨rfl, hi, p⟩
  have q := hl i H hi p
  by_cases hlt : i < xs.length
  · refine .inr ⟨⟨xs, _, q, List.getElem?_eq_getElem hlt⟩, Pv (i + 1), fun H' p' => ⟨xs.length - (i + 1), by omega, rfl, hlt, p'⟩, fun x H' y => ?_⟩
    obtain ⟨T, z, rfl, hT, rfl, y⟩ := y
    exact hs i z H T (y xs q) p hT
  · have e : i = xs.length := by omega
    subst e
    exact .inl ⟨⟨xs, q, rfl⟩, hd H p⟩
def spDivides : Sp := fun vs H Q _ => ∃ i j : Int, vs = [.int i, .int j] ∧ Q (.bl (divM i j)) H
theorem ok_divides (D : Df K mg "divides" s_divides) (B : Bn mg) : Has P w K mg base "divides" 1 p_divides spDivides := by
  refine has_of (k := 0) D sc_divides bn_divides ?_ ?_
  · rintro vs H Q E ⟨i, j, rfl, _⟩
    rfl
  rintro f cdv A outer s0 H vs Q E hr ⟨i, j, rfl, k⟩
  refine ⟨_, (pss_one (ps_ret (pe_ifExp (pt_cmpR op_eq (pv 0) pe_int (nomark _)) (pe_cmpR op_eq (pv 1) pe_int (nomark _)) (pe_cmpR op_eq (pe_op op_modN (pv 1) (pv 0)) pe_int (nomark _))))), ?_⟩
  refine ⟨_, rfl, rfl, _, rfl, ?_⟩
  unfold divM at k
  by_cases h : i = 0
  · subst h
    rw [if_pos rfl] at k
    refine iteT ⟨_, rfl, rfl, ?_⟩
    rw [show decide (V.int j = V.int 0) = decide (j = 0) by simp]
    exact k
  · rw [if_neg h] at k
    rw [show decide (V.int i = V.int 0) = false by simp [h]]
    refine iteF ⟨_, rfl, _, rfl, _, _, rfl, rfl, h, rfl, ?_⟩
    rw [show decide (V.int (j.fmod i) = V.int 0) = decide (j.fmod i = 0) by simp]
    exact k
def spBare (K : PySem.W.Frag) : Sp := fun vs H Q _ => ∃ (v : V) (rs : List (List Int)), vs = [v] ∧ Dp K H v (rowsD rs) ∧ rs.length ≤ 4000 ∧ (∀ r ∈ rs, r.length ≤ 4000) ∧ ∀ H', Same H H' → Q (.bl (bareP rs rs.length)) H'
theorem ok_is_bare (D : Df K mg "is_bare" s_is_bare) (B : Bn mg) : Has P w K mg base "is_bare" 1 p_is_bare (spBare K) := by
  refine has_of (k := 0) D sc_is_bare bn_is_bare ?_ ?_
  · rintro vs H Q E ⟨v, rs, rfl, _⟩
    rfl
  rintro f cdv A outer s0 H vs Q E hr ⟨v, rs, rfl, hv, hn, hw, k⟩
  obtain ⟨pr, xs, rfl, hxs, hall, hlen⟩ := dp_rows hv
  refine ⟨_, (pss_one (ps_ret (pe_callB (call_allK (K := K) (by rfl) (by rfl)) (by rfl) B.all_ (by decide +kernel) (pa_cons (pe_lc2 (own := [("at", 1), ("row", 2), ("column", 3), ("number", 4)]) (vs1 := [3, 4]) rfl sc_is_bare.nd (pi_enumK (K := K) (by rfl) (by rfl) B.enumerate_ (pa_cons (pv 0) pa_nil)) (blkOk_by (own := [("at", 1), ("row", 2), ("column", 3), ("number", 4)]) (N := n_is_bare) (sc := defScope s_is_bare) (by decide +kernel)) (by decide) (fun _ _ _ _ _ => (pg_tupK (K := K) (n := 2) (by rfl) (by rfl) (pgs_cons (pg_name (i := 1) sc_is_bare.nd rfl (by first | exact Or.inl rfl | exact Or.inr rfl)) (pgs_cons (pg_name (i := 2) sc_is_bare.nd rfl (by first | exact Or.inl rfl | exact Or.inr rfl)) pgs_nil)))) (fun _ _ _ _ _ => pts_nil) (fun _ _ _ _ _ => (pi_enumK (K := K) (by rfl) (by rfl) B.enumerate_ (pa_cons (pv 2) pa_nil))) (fun _ _ _ _ _ => (pg_tupK (K := K) (n := 2) (by rfl) (by rfl) (pgs_cons (pg_name (i := 3) sc_is_bare.nd rfl (by first | exact Or.inl rfl | exact Or.inr rfl)) (pgs_cons (pg_name (i := 4) sc_is_bare.nd rfl (by first | exact Or.inl rfl | exact Or.inr rfl)) pgs_nil)))) (fun _ _ _ _ _ => (pts_one (pt_cmpR op_ne (pv 3) (pv 1) (nomark _)))) (fun _ _ _ _ _ => (pe_cmpR op_eq (pv 4) pe_int (nomark _)))) pa_nil)))), ?_⟩
  refine ⟨_, rfl, pr, _, rfl, hxs, fun D1 hD1 => ?_⟩
  refine lcGe (K := K) (xs := xs) (fun i H2 => Same H H2 ∧ ∃ bs : List Bool, H2 D1 = some (.lst (bs.map V.bl)) ∧ bs.length ≤ i * 4000 ∧ bs.all id = bareP rs i) ?_ ?_ ?_ ?_
  · exact ⟨Same.new hD1, [], upd_same, by simp, rfl⟩
  · rintro i H2 _ ⟨e2, _⟩
    exact sqt_same e2 hxs
  · rintro i x H2 T hx ⟨e2, bs, h2, hb, hall2⟩ hT
    have hi : i < rs.length := by
      rw [← hlen]
      exact (List.getElem?_eq_some_iff.mp hx).1
    obtain ⟨dx, hdx, hdp⟩ := dpa_get _ _ i x hall hx
    have er := rows_getD hi
    rw [er] at hdx
    cases hdx
    obtain ⟨p, rfl, hp⟩ := dp_row hdp
    have hrl := hw _ (Gd.getD_mem (d := []) hi)
    have eT := Same.new (o := .tup [.int (i : Nat), .ref p]) hT
    refine ⟨T, _, rfl, SqT.of upd_same, rfl, _, _, rfl, _, _, rfl, rfl, rfl, ?_⟩
    unfold tYes
    dsimp only
    rw [if_pos rfl]
    refine ⟨_, rfl, p, _, rfl, sqt_same (e2.trans eT) hp, ?_⟩
    refine lcGe (K := K) (xs := (rs.getD i []).map V.int) (fun j H3 => Same H H3 ∧ ∃ bs : List Bool, H3 D1 = some (.lst (bs.map V.bl)) ∧ bs.length ≤ i * 4000 + j ∧ bs.all id = (bareP rs i && bareAt i (rs.getD i []) j)) ?_ ?_ ?_ ?_
    · exact ⟨e2.trans eT, bs, eT _ _ h2, by omega, by rw [hall2]; simp [bareAt]⟩
    · rintro j H3 _ ⟨e3, _⟩
      exact sqt_same e3 hp
    · rintro j y H3 T3 hy ⟨e3, bs3, h3, hb3, hall3⟩ hT3
      obtain ⟨z, hz, rfl⟩ : ∃ z, (rs.getD i [])[j]? = some z ∧ V.int z = y := by
        rw [List.getElem?_map] at hy
        exact Option.map_eq_some_iff.mp hy
      have hj : j < (rs.getD i []).length := (List.getElem?_eq_some_iff.mp hz).1
      have ez : (rs.getD i []).getD j 0 = z := by
        rw [List.getD_eq_getElem?_getD, hz]
        rfl
      have eT3 := Same.new (o := .tup [.int (j : Nat), .int z]) hT3
      refine ⟨T3, _, rfl, SqT.of upd_same, rfl, _, _, rfl, _, _, rfl, rfl, rfl, ?_⟩
      refine ⟨_, rfl, _, rfl, rfl, _, rfl, ?_⟩
      by_cases hij : j = i
      · rw [show (!decide (V.int (j : Int) = V.int (i : Int))) = false by simp [hij]]
        refine iteF ⟨e3.trans eT3, bs3, eT3 _ _ h3, by omega, ?_⟩
        rw [hall3, bareAt_succ, hij]
        simp
      · rw [show (!decide (V.int (j : Int) = V.int (i : Int))) = true by simp; omega]
        refine iteT ?_
        refine ⟨_, rfl, rfl, _, eT3 _ _ h3, ?_, ?_⟩
        · rw [List.length_map, sizeLine_eq]
          omega
        · refine ⟨Gd.Same.put (e3.trans eT3) hD1, bs3 ++ [decide (z = 0)], ?_, ?_, ?_⟩
          · rw [upd_same, List.map_append]
            simp
          · rw [List.length_append]
            simp
            omega
          · rw [List.all_append, hall3, bareAt_succ, ez]
            simp [hij, Bool.and_assoc]
    · rintro H3 ⟨e3, bs3, h3, hb3, hall3⟩
      rw [List.length_map] at hb3 hall3
      exact ⟨e3, bs3, h3, by omega, by rw [hall3, bareP_succ]⟩
  · rintro H2 ⟨e2, bs, h2, hb, hall2⟩
    refine ⟨D1, bs, rfl, SqL.of h2, ?_⟩
    rw [hall2, hlen]
    exact k H2 e2
def spDowns (K : PySem.W.Frag) : Sp := fun vs H Q _ => ∃ (v : V) (wd : Nat) (rs : List (List Int)), vs = [v] ∧ Dp K H v (tabD wd rs) ∧ rs.length ≤ 4000 ∧ (∀ r ∈ rs, r.length = wd) ∧ ∀ v' H', Same H H' → Dp K H' v' (rowD (downsM wd rs)) → Q v' H'
theorem min_nat (a b : Nat) : (if (b : Int) < (a : Int) then (b : Int) else (a : Int)) = ((min a b : Nat) : Int) := by
  split <;> omega
theorem ok_downs_of (D : Df K mg "downs_of" s_downs_of) (B : Bn mg) : Has P w K mg base "downs_of" 1 p_downs_of (spDowns K) := by
  refine has_of (k := 0) D sc_downs_of bn_downs_of ?_ ?_
  · rintro vs H Q E ⟨v, wd, rs, rfl, _⟩
    rfl
  rintro f cdv A outer s0 H vs Q E hr ⟨v, wd, rs, rfl, hv, hn, hw, k⟩
  obtain ⟨pt, ur, rfl, htab, hrows⟩ := dp_tab hv
  obtain ⟨pr, xs, rfl, hxs, hall, hlen⟩ := dp_rows hrows
  refine ⟨_, (pss_cons (ps_asg (pv 0) (pg_tupK (K := K) (n := 2) (by rfl) (by rfl) (pgs_cons (pg_name (i := 1) sc_downs_of.nd rfl (by first | exact Or.inl rfl | exact Or.inr rfl)) (pgs_cons (pg_name (i := 2) sc_downs_of.nd rfl (by first | exact Or.inl rfl | exact Or.inr rfl)) pgs_nil))))
      (pss_one (ps_ret (pe_callTy (call_tupleK (K := K) (by rfl)) (by rfl) B.tuple_ (by decide +kernel) (pa_cons (pe_lc (own := [("k", 3)]) rfl sc_downs_of.nd (pi_range1 (by rfl) B.range_ (pa_cons (pe_callB (call_min2 (by rfl)) (by rfl) B.min_ (by decide +kernel) (pa_cons (pv 1) (pa_cons (pe_callB (call_lenK (K := K) (by rfl)) (by rfl) B.len_ (by decide +kernel) (pa_cons (pv 2) pa_nil)) pa_nil))) pa_nil)) (blkOk_by (own := [("k", 3)]) (N := n_downs_of) (sc := defScope s_downs_of) (by decide +kernel)) (fun _ _ _ _ _ => (pg_name (i := 3) sc_downs_of.nd rfl (by first | exact Or.inl rfl | exact Or.inr rfl))) (fun _ _ _ _ _ => pts_nil) (fun _ _ _ _ _ => (pe_ix (ix_tupK (K := K) (by rfl)) (pe_ix (ix_tupK (K := K) (by rfl)) (pv 2) (pv 3) (fun _ _ => rfl)) (pv 3) (fun _ _ => rfl)))) pa_nil))))), ?_⟩
  refine ⟨_, rfl, pt, _, rfl, htab, rfl, _, _, rfl, _, _, rfl, rfl, ?_⟩
  refine ⟨_, rfl, _, rfl, pr, _, rfl, .inr hxs, _, _, rfl, ((min wd rs.length : Nat) : Int), ?_, by omega, by omega, fun D1 hD1 => ?_⟩
  · rw [hlen, min_nat]
  refine lcGr (lo := 0) (n := min wd rs.length) (fun i H2 => Same H H2 ∧ H2 D1 = some (.lst ((((List.range i).map fun k => (rs.getD k []).getD k 0)).map V.int))) ?_ ?_ ?_
  · exact ⟨Same.new hD1, upd_same⟩
  · rintro i H2 hi ⟨e2, h2⟩
    have hi1 : i < rs.length := by omega
    have hi2 : i < wd := by omega
    obtain ⟨x, hx, hdx⟩ := dpa_at _ _ i _ hall (rows_getD hi1)
    obtain ⟨p, rfl, hp⟩ := dp_row hdx
    have hrl := hw _ (Gd.getD_mem (d := []) hi1)
    refine ⟨rfl, ?_⟩
    unfold tYes
    dsimp only
    rw [if_pos rfl]
    have ei : (0 : Int) + (i : Int) = ((i : Nat) : Int) := by omega
    rw [ei]
    refine ⟨_, rfl, _, rfl, pr, xs, _, .ref p, rfl, rfl, sqt_same e2 hxs, atI_nat hx, _, rfl, p, _, _, .int ((rs.getD i []).getD i 0), rfl, rfl, sqt_same e2 hp, ?_, ?_⟩
    · exact atI_nat (int_at (by omega))
    · refine ⟨_, h2, ?_, Gd.Same.put e2 hD1, ?_⟩
      · rw [List.length_map, List.length_map, List.length_range, sizeLine_eq]
        omega
      · rw [upd_same, List.range_succ, List.map_append, List.map_append]
        rfl
  · rintro H2 ⟨e2, h2⟩
    refine ⟨D1, _, rfl, .inl ⟨SqL.of h2, fun l nl => ?_⟩⟩
    refine k _ _ (e2.trans (Same.new nl)) (mk_row (SqT.of upd_same))
def spAreDowns (K : PySem.W.Frag) : Sp := fun vs H Q _ => ∃ (v : V) (ds : List Int), vs = [v] ∧ Dp K H v (rowD ds) ∧ ds.length ≤ 4000 ∧ ∀ H', Same H H' → Q (.bl (areM ds)) H'
theorem ok_are_downs (D : Df K mg "are_downs" s_are_downs) (B : Bn mg) (h_divides : Has P w K mg base "divides" 1 p_divides spDivides) : Has P w K mg base "are_downs" 2 p_are_downs (spAreDowns K) := by
  refine has_of (k := 1) D sc_are_downs bn_are_downs ?_ ?_
  · rintro vs H Q E ⟨v, ds, rfl, _⟩
    rfl
  rintro f cdv A outer s0 H vs Q E hr ⟨v, ds, rfl, hv, hn, k⟩
  obtain ⟨p, rfl, hp⟩ := dp_row hv
  refine ⟨_, (pss_cons (ps_if (pt_val (pe_callB (call_anyK (K := K) (by rfl) (by rfl)) (by rfl) B.any_ (by decide +kernel) (pa_cons (pe_lc (own := [("down", 1)]) rfl sc_are_downs.nd (pi_tupK (K := K) (by rfl) (pv 0)) (blkOk_by (own := [("down", 1)]) (N := n_are_downs) (sc := defScope s_are_downs) (by decide +kernel)) (fun _ _ _ _ _ => (pg_name (i := 1) sc_are_downs.nd rfl (by first | exact Or.inl rfl | exact Or.inr rfl))) (fun _ _ _ _ _ => pts_nil) (fun _ _ _ _ _ => (pe_cmpR op_lt (pv 1) pe_int (nomark _)))) pa_nil))) (pss_one (ps_ret pe_bl)) pss_nil)
      (pss_one (ps_ret (pe_callB (call_allK (K := K) (by rfl) (by rfl)) (by rfl) B.all_ (by decide +kernel) (pa_cons (pe_lc (own := [("at", 2), ("down", 1)]) rfl sc_are_downs.nd (pi_enumK (K := K) (by rfl) (by rfl) B.enumerate_ (pa_cons (pe_slice (sl_tupK (K := K) (by rfl)) (pv 0) po_none (po_some (pe_un un_neg pe_int))) pa_nil)) (blkOk_by (own := [("at", 2), ("down", 1)]) (N := n_are_downs) (sc := defScope s_are_downs) (by decide +kernel)) (fun _ _ _ _ _ => (pg_tupK (K := K) (n := 2) (by rfl) (by rfl) (pgs_cons (pg_name (i := 2) sc_are_downs.nd rfl (by first | exact Or.inl rfl | exact Or.inr rfl)) (pgs_cons (pg_name (i := 1) sc_are_downs.nd rfl (by first | exact Or.inl rfl | exact Or.inr rfl)) pgs_nil)))) (fun _ _ _ _ _ => pts_nil) (fun _ _ _ _ _ => (pe_has (h_divides) (hr.mono (by first | decide | omega)) (by rfl) (pa_cons (pv 1) (pa_cons (pe_ix (ix_tupK (K := K) (by rfl)) (pv 0) (pe_op op_add (pv 2) pe_int) (fun _ _ => rfl)) pa_nil))))) pa_nil))))), ?_⟩
  refine ⟨_, rfl, p, rfl, ⟨_, hp⟩, fun D1 hD1 => ?_⟩
  refine lcGt (K := K) (xs := ds.map V.int) (fun i H2 => Same H H2 ∧ H2 D1 = some (.lst (((ds.take i).map fun d => decide (d < 0)).map V.bl))) ?_ ?_ ?_ ?_
  · exact ⟨Same.new hD1, upd_same⟩
  · rintro i H2 _ ⟨e2, _⟩
    exact sqt_same e2 hp
  · rintro i x H2 hx ⟨e2, h2⟩
    obtain ⟨z, hz, rfl⟩ : ∃ z, ds[i]? = some z ∧ V.int z = x := by
      rw [List.getElem?_map] at hx
      exact Option.map_eq_some_iff.mp hx
    refine ⟨rfl, ?_⟩
    unfold tYes
    dsimp only
    rw [if_pos rfl]
    refine ⟨_, rfl, _, _, rfl, rfl, _, h2, ?_, Gd.Same.put e2 hD1, ?_⟩
    · rw [List.length_map, List.length_map, List.length_take, sizeLine_eq]
      omega
    · rw [upd_same, List.take_succ, hz, List.map_append, List.map_append]
      rfl
  · rintro H2 ⟨e2, h2⟩
    rw [List.length_map, List.take_length] at h2
    refine ⟨D1, _, rfl, SqL.of h2, _, rfl, ?_⟩
    have e0 : (ds.map fun d => decide (d < 0)).any id = ds.any fun d => decide (d < 0) := by
      rw [List.any_map]
      rfl
    rw [e0]
    by_cases hneg : (ds.any fun d => decide (d < 0)) = true
    · rw [hneg]
      refine iteT ?_
      have := k H2 e2
      rw [show areM ds = false by unfold areM; rw [hneg]; rfl] at this
      exact this
    · have hneg : (ds.any fun d => decide (d < 0)) = false := by
        cases h : (ds.any fun d => decide (d < 0)) with
        | true => exact absurd h hneg
        | false => rfl
      rw [hneg]
      refine iteF ?_
      have ea : areM ds = (List.range (ds.length - 1)).all fun i => divM (ds.getD i 0) (ds.getD (i + 1) 0) := by
        unfold areM
        rw [hneg]
        rfl
      have hv2 := Dp.same e2 _ _ hv
      refine ⟨_, rfl, _, rfl, _, rfl, ?_⟩
      refine slp hv2 (i := 0) (j := ds.length - 1) rfl ?_ fun u H3 e3 hu => ?_
      · rw [List.length_map]
        show (if (-1 : Int) < 0 then ((-1 : Int) + ((ds.length : Nat) : Int)).toNat else min (-1 : Int).toNat ds.length) = ds.length - 1
        rw [if_pos (by decide)]
        omega
      rw [List.drop_zero, Nat.sub_zero, ← List.map_take] at hu
      obtain ⟨pu, rfl, hpu⟩ := dp_row hu
      have e23 := e2.trans e3
      refine ⟨pu, _, rfl, hpu, fun D2 hD2 => ?_⟩
      refine lcGe (K := K) (xs := (ds.take (ds.length - 1)).map V.int) (fun i H4 => Same H3 H4 ∧ H4 D2 = some (.lst (((List.range i).map fun i => divM (ds.getD i 0) (ds.getD (i + 1) 0)).map V.bl))) ?_ ?_ ?_ ?_
      · exact ⟨Same.new hD2, upd_same⟩
      · rintro i H4 _ ⟨e4, _⟩
        exact sqt_same e4 hpu
      · rintro i x H4 T hx ⟨e4, h4⟩ hT
        have hi := (List.getElem?_eq_some_iff.mp hx).1
        rw [List.length_map, List.length_take] at hi
        have hx2 : x = V.int (ds.getD i 0) := by
          rw [List.getElem?_map, List.getElem?_take, if_pos (by omega), List.getElem?_eq_getElem (by omega)] at hx
          rw [List.getD_eq_getElem?_getD, List.getElem?_eq_getElem (by omega)]
          exact (Option.some.inj hx).symm
        subst hx2
        have eT := Same.new (o := .tup [.int (i : Nat), .int (ds.getD i 0)]) hT
        refine ⟨T, _, rfl, SqT.of upd_same, rfl, _, _, rfl, _, _, rfl, rfl, rfl, ?_⟩
        unfold tYes
        dsimp only
        rw [if_pos rfl]
        refine ⟨_, rfl, _, rfl, _, rfl, _, _, rfl, rfl, p, _, _, .int (ds.getD (i + 1) 0), rfl, rfl, sqt_same (e23.trans (e4.trans eT)) hp, ?_, _, _, rfl, ?_⟩
        · rw [show (i : Int) + 1 = ((i + 1 : Nat) : Int) by omega]
          exact atI_nat (int_at (by omega))
        · refine ⟨_, eT _ _ h4, ?_, Gd.Same.put (e4.trans eT) hD2, ?_⟩
          · rw [List.length_map, List.length_map, List.length_range, sizeLine_eq]
            omega
          · rw [upd_same, List.range_succ, List.map_append, List.map_append]
            rfl
      · rintro H4 ⟨e4, h4⟩
        rw [List.length_map, List.length_take, Nat.min_eq_left (by omega)] at h4
        refine ⟨D2, _, rfl, SqL.of h4, ?_⟩
        have := k H4 (e23.trans e4)
        rw [ea] at this
        rw [List.all_map]
        exact this
def isRoundsD (d : PyData) : Bool := isTabD d && match d with
  | .tuple [.int w, .tuple rows] => roundsM w.toNat (rows.map fun r => match r with | .tuple xs => xs.map (fun x => match x with | .int i => i | _ => 0) | _ => [])
  | _ => false
theorem isRounds_tab {n : Nat} {rs : List (List Int)} (h : ∀ r ∈ rs, r.length = n) : isRoundsD (tabD n rs) = roundsM n rs := by
  unfold isRoundsD
  rw [tab_of h, Bool.true_and]
  show roundsM (n : Int).toNat ((rs.map rowD).map _) = _
  rw [Int.toNat_natCast, List.map_map]
  congr 1
  conv => rhs; rw [← List.map_id rs]
  refine List.map_congr_left fun r _ => ?_
  show (r.map PyData.int).map _ = r
  rw [List.map_map]
  conv => rhs; rw [← List.map_id r]
  rfl
def spIsRounds (K : PySem.W.Frag) : Sp := fun vs H Q _ => ∃ (v : V) (d : PyData), vs = [v] ∧ Dp K H v d ∧ fz d ≤ 3999 ∧ ∀ H', Same H H' → Q (.bl (isRoundsD d)) H'
theorem tab_fz {n : Nat} {rs : List (List Int)} {m : Nat} (h : fz (tabD n rs) ≤ m) : rs.length ≤ m ∧ ∀ r ∈ rs, r.length ≤ m := by
  unfold tabD rowsD at h
  simp only [fz, fzAll] at h
  have h1 := fzAll_len (rs.map rowD)
  rw [List.length_map] at h1
  refine ⟨by omega, fun r hr => ?_⟩
  have h2 := fzAll_mem (List.mem_map_of_mem (f := rowD) hr)
  unfold rowD at h2
  simp only [fz] at h2
  have h3 := fzAll_len (r.map PyData.int)
  rw [List.length_map] at h3
  unfold rowD at h
  omega
theorem ok_is_rounds (D : Df K mg "is_rounds" s_is_rounds) (B : Bn mg) (h_is_table : Has P w K mg base "is_table" 3 p_is_table (spIsTabD K)) (h_is_bare : Has P w K mg base "is_bare" 1 p_is_bare (spBare K))
    (h_are_downs : Has P w K mg base "are_downs" 2 p_are_downs (spAreDowns K)) (h_downs_of : Has P w K mg base "downs_of" 1 p_downs_of (spDowns K)) :
    Has P w K mg base "is_rounds" 4 p_is_rounds (spIsRounds K) := by
  refine has_of (k := 3) D sc_is_rounds bn_is_rounds ?_ ?_
  · rintro vs H Q E ⟨v, d, rfl, _⟩
    rfl
  rintro f cdv A outer s0 H vs Q E hr ⟨v, d, rfl, hv, hz, k⟩
  refine ⟨_, (pss_one (ps_ret (pe_and (pe_has (h_is_table) (hr.mono (by first | decide | omega)) (by rfl) (pa_cons (pv 0) pa_nil)) (pe_and (pe_has (h_is_bare) (hr.mono (by first | decide | omega)) (by rfl) (pa_cons (pe_ix (ix_tupK (K := K) (by rfl)) (pv 0) pe_int (fun _ _ => rfl)) pa_nil)) (pe_one (pe_has (h_are_downs) (hr.mono (by first | decide | omega)) (by rfl) (pa_cons (pe_has (h_downs_of) (hr.mono (by first | decide | omega)) (by rfl) (pa_cons (pv 0) pa_nil)) pa_nil))))))), ?_⟩
  refine ⟨_, rfl, v, d, rfl, hv, by omega, fun H1 e1 => ⟨_, rfl, ?_⟩⟩
  by_cases hT : isTabD d = true
  · rw [hT]
    refine iteT ?_
    obtain ⟨n, rs, rfl, hw⟩ := tab_true hT
    obtain ⟨hl1, hl2⟩ := tab_fz hz
    have k := fun H' e => (isRounds_tab hw) ▸ k H' e
    have hv1 := Dp.same e1 _ _ hv
    obtain ⟨pt, ur, rfl, htab, hrows⟩ := dp_tab hv1
    refine ⟨_, rfl, pt, _, 1, ur, rfl, rfl, htab, rfl, ur, rs, rfl, hrows, by omega, fun r hr => by have := hl2 r hr; omega, fun H2 e2 => ⟨_, rfl, ?_⟩⟩
    cases hb : bareP rs rs.length with
    | false =>
      refine iteF ?_
      have := k H2 (e1.trans e2)
      rw [show roundsM n rs = false by unfold roundsM; rw [hb]; rfl] at this
      exact this
    | true =>
      refine iteT ?_
      refine ⟨_, rfl, _, n, rs, rfl, Dp.same e2 _ _ hv1, by omega, hw, fun u H3 e3 hu => ?_⟩
      refine ⟨u, _, rfl, hu, ?_, fun H4 e4 => ?_⟩
      · unfold downsM
        rw [List.length_map, List.length_range]
        omega
      · have := k H4 (e1.trans (e2.trans (e3.trans e4)))
        rw [show roundsM n rs = areM (downsM n rs) by unfold roundsM; rw [hb]; rfl] at this
        exact this
  · have hT : isTabD d = false := by
      cases h : isTabD d with
      | true => exact absurd h hT
      | false => rfl
    rw [hT]
    refine iteF ?_
    have := k H1 e1
    rw [show isRoundsD d = false by unfold isRoundsD; rw [hT]; rfl] at this
    exact this

end K55

set_option Elab.async false
set_option linter.all false
set_option maxRecDepth 100000
set_option maxHeartbeats 1000000
namespace K55
open PySem PySem.Spec PyProof.Rows L2 Gd
variable {P : Program} {w : World} {K : PySem.W.Frag} {mg : Str → Option Value} {base : Heap}
/-! ### data that a dict feed leaves alone -/
def Tt (H H' : Hp) : Prop := ∀ b o, (∀ xs, o ≠ .lst xs) → (∀ kvs, o ≠ .dK kvs) → H b = some o → H' b = some o
theorem sqt_tt {K : PySem.W.Frag} {H H' : Hp} {a : Addr} {xs : List V} (e : Tt H H') (h : SqT K H a xs) : SqT K H' a xs := by
  rcases h with (h | ⟨o, h⟩) | h
  · exact Or.inl (Or.inl (e _ _ (fun _ z => by cases z) (fun _ z => by cases z) h))
  · exact Or.inl (Or.inr ⟨o, e _ _ (fun _ z => by cases z) (fun _ z => by cases z) h⟩)
  · exact Or.inr h
mutual
theorem dp_tt {K : PySem.W.Frag} {H H' : Hp} (e : Tt H H') : ∀ (d : PyData) (v : V), tupOnly d = true → Dp K H v d → Dp K H' v d
  | .none, _, _, h => by cases h; exact .non
  | .bool b, _, _, h => by cases h; exact .bl b
  | .int i, _, _, h => by cases h; exact .int i
  | .str x, _, _, h => by cases h; exact .str x
  | .list ds, _, t, h => by simp [tupOnly] at t
  | .tuple ds, _, t, h => by
    cases h with
    | tup hs ha => exact .tup (sqt_tt e hs) (dpa_tt e ds _ (by simpa [tupOnly] using t) ha)
  | .dict _, _, t, h => by simp [tupOnly] at t
theorem dpa_tt {K : PySem.W.Frag} {H H' : Hp} (e : Tt H H') : ∀ (ds : List PyData) (vs : List V), tupAll ds = true → DpAll K H vs ds → DpAll K H' vs ds
  | [], _, _, h => by cases h; exact .nil
  | d :: ds, _, t, h => by
    have t' : tupOnly d = true ∧ tupAll ds = true := by simpa [tupAll] using t
    cases h with
    | cons h1 h2 => exact .cons (dp_tt e d _ t'.1 h1) (dpa_tt e ds _ t'.2 h2)
end
theorem hid_tt {H : Hp} {a s : Addr} {n : Nat} (f : Fx H a s n) : Tt H (hid a H) := fun b o h1 h2 hb => by
  refine hid_at hb ?_
  rintro rfl
  obtain ⟨ns, p, l, c, ha, _⟩ := f
  rw [ha] at hb
  cases hb
  exact h2 _ rfl
theorem dp_qx {K : PySem.W.Frag} {H : Hp} {a s : Addr} {n : Nat} {v : V} {d : PyData} (f : Fx H a s n) (t : tupOnly d = true) (h : Dp K H v d) : Dq K a H v d := dp_tt (hid_tt f) d v t h
/-! ### the law's rounds -/
def diagM (m wd : Nat) (ds : List Int) : List (List Int) := (List.range m).map fun k => (List.range wd).map fun j => if j = k then ds.getD k 0 else 0
def spLRounds (K : PySem.W.Frag) : Sp := fun vs H Q _ => ∃ (l : Addr) (m wd : Nat) (ds : List Int), vs = [.int m, .int wd, .ref l] ∧ SqL K H l (ds.map V.int) ∧ m ≤ 20 ∧ wd ≤ 20 ∧ min m wd ≤ ds.length ∧
  ∀ v H', Same H H' → Dp K H' v (tabD wd (diagM m wd ds)) → Q v H'
theorem ok_l_rounds (D : Df K mg "_law_rounds" s_l_rounds) (B : Bn mg) : Has P w K mg base "_law_rounds" 1 p_l_rounds (spLRounds K) := by
  refine has_of (k := 0) D sc_l_rounds bn_l_rounds ?_ ?_
  · rintro vs H Q E ⟨l, m, wd, ds, rfl, _⟩
    rfl
  rintro f cdv A outer s0 H vs Q E hr ⟨dl, m, wd, ds, rfl, hds, hm, hwd, hmin, k⟩
  refine ⟨_, (pss_cons (ps_asg (pe_lst pa_nil) (pg_name (i := 3) sc_l_rounds.nd rfl (by first | exact Or.inl rfl | exact Or.inr rfl)))
      (pss_cons (ps_for PassesOwn.never rfl (pi_range1 (by rfl) B.range_ (pa_cons (pv 0) pa_nil)) (pg_name (i := 4) sc_l_rounds.nd rfl (by first | exact Or.inl rfl | exact Or.inr rfl)) (pss_one (ps_expr (pe_bm PySem.F.plainAttrs_list PySem.F.slot_list_append PySem.F.type_list_append mt_append (pv 3) (pa_cons (pe_callTy (call_tupleK (K := K) (by rfl)) (by rfl) B.tuple_ (by decide +kernel) (pa_cons (pe_lc (own := [("_law_j", 5)]) rfl sc_l_rounds.nd (pi_range1 (by rfl) B.range_ (pa_cons (pv 1) pa_nil)) (blkOk_by (own := [("_law_j", 5)]) (N := n_l_rounds) (sc := defScope s_l_rounds) (by decide +kernel)) (fun _ _ _ _ _ => (pg_name (i := 5) sc_l_rounds.nd rfl (by first | exact Or.inl rfl | exact Or.inr rfl))) (fun _ _ _ _ _ => pts_nil) (fun _ _ _ _ _ => (pe_ifExp (pt_cmpR op_eq (pv 5) (pv 4) (nomark _)) (pe_ix (ix_listK (K := K) (by rfl)) (pv 2) (pv 4) (fun _ _ => rfl)) pe_int))) pa_nil)) pa_nil)))))
      (pss_one (ps_ret (pe_tup (pa_cons (pv 1) (pa_cons (pe_callTy (call_tupleK (K := K) (by rfl)) (by rfl) B.tuple_ (by decide +kernel) (pa_cons (pv 3) pa_nil)) pa_nil))))))), ?_⟩
  refine ⟨Nat.zero_le _, fun l nl => ?_⟩
  have e0 := Same.new (o := .lst []) nl
  refine ⟨_, rfl, (m : Int), rfl, by omega, by omega, for_range (lo := 0) (n := m) (fun i σ H' => ∃ (ys : List V) (v4 v5 : Option V),
    σ = [some (.int m), some (.int wd), some (.ref dl), some (.ref l), v4, v5] ∧ H' l = some (.lst ys) ∧ DpAll K H' ys ((diagM i wd ds).map rowD) ∧ Same H H') ?_ ?_ ?_⟩
  · exact ⟨[], none, none, rfl, upd_same, .nil, e0⟩
  · rintro i σ H' hi ⟨ys, v4, v5, rfl, hl, hall, e⟩
    have ei : (0 : Int) + (i : Int) = ((i : Nat) : Int) := by omega
    rw [ei]
    refine ⟨_, rfl, .inl ⟨rfl, _, SqL.of hl⟩, _, rfl, (wd : Int), rfl, by omega, by omega, fun D1 hD1 => ?_⟩
    refine lcGr (lo := 0) (n := wd) (fun j H2 => Same H' H2 ∧ H2 D1 = some (.lst (((List.range j).map fun j => if j = i then ds.getD i 0 else 0).map V.int))) ?_ ?_ ?_
    · exact ⟨Same.new hD1, upd_same⟩
    · rintro j H2 hj ⟨e2, h2⟩
      refine ⟨rfl, ?_⟩
      unfold tYes
      dsimp only
      rw [if_pos rfl]
      have done : ∀ z : Int, z = (if j = i then ds.getD i 0 else 0) → ∃ acc, H2 D1 = some (.lst acc) ∧ acc.length < sizeLine ∧
          (fun H3 => Same H' H3 ∧ H3 D1 = some (.lst (((List.range (j + 1)).map fun j => if j = i then ds.getD i 0 else 0).map V.int))) (upd H2 D1 (.lst (acc ++ [.int z]))) := by
        rintro z rfl
        refine ⟨_, h2, ?_, Gd.Same.put e2 hD1, ?_⟩
        · rw [List.length_map, List.length_map, List.length_range, sizeLine_eq]
          omega
        · rw [upd_same, List.range_succ, List.map_append, List.map_append]
          rfl
      refine ⟨_, rfl, _, rfl, rfl, _, rfl, ?_⟩
      by_cases hij : j = i
      · rw [show decide (V.int ((0 : Int) + (j : Int)) = V.int ((i : Nat) : Int)) = true by simp [hij]]
        refine iteT ?_
        refine ⟨_, rfl, _, rfl, dl, _, _, .int (ds.getD i 0), rfl, rfl, sql_same (e.trans e2) hds, atI_nat (int_at (by omega)), done _ ?_⟩
        rw [if_pos hij]
      · rw [show decide (V.int ((0 : Int) + (j : Int)) = V.int ((i : Nat) : Int)) = false by simp; omega]
        refine iteF (done _ ?_)
        rw [if_neg hij]
    · rintro H2 ⟨e2, h2⟩
      refine ⟨D1, _, rfl, .inl ⟨SqL.of h2, fun q nq => ?_⟩⟩
      have eq := Same.new (o := .tup (((List.range wd).map fun j => if j = i then ds.getD i 0 else 0).map V.int)) nq
      have e2q := e2.trans eq
      have hl2 := e2q _ _ hl
      have hlen : ys.length = i := by
        rw [dpa_len _ _ hall, List.length_map]
        simp [diagM]
      refine ⟨l, _, _, rfl, rfl, hl2, ?_, ?_⟩
      · rw [hlen, sizeLine_eq]
        omega
      · have tk := Tk.lst (o := .lst (ys ++ [.ref q])) hl2
        refine ⟨ys ++ [.ref q], _, _, rfl, upd_same, ?_, Gd.Same.put (e.trans e2q) nl⟩
        unfold diagM
        rw [List.range_succ, List.map_append, List.map_append]
        exact dpa_snoc _ _ _ _ (DpAll.tk tk _ _ (rows_tup _) (DpAll.same e2q _ _ hall)) (Dp.tk tk _ _ (rowD_tup _) (mk_row (SqT.of upd_same)))
  · rintro σ H' ⟨ys, v4, v5, rfl, hl, hall, e⟩
    refine ⟨_, rfl, _, rfl, ?_⟩
    try dsimp only [tC, tNil]
    refine tupL_dp hl hall fun v2 H2 e2 hv2 => ?_
    refine tup_dp (K := K) (.cons (.int _) (.cons hv2 .nil)) (by simp) fun v3 H3 e3 hv3 => ?_
    exact k _ _ (e.trans (e2.trans e3)) hv3

abbrev Fine (d : PyData) : Prop := Fn (10 ^ 99) 20 3999 d
theorem big99 : 10 ^ 99 < 2 ^ 1900 := Nat.lt_of_lt_of_le (by decide : 10 ^ 99 < 2 ^ 400) (Nat.pow_le_pow_right (by decide) (by decide))
theorem shp_filter {ds : List PyData} {p : PyData → Bool} (h : Fine (.tuple ds)) : SeqAt.shaped (.list (ds.filter p)) = true := by
  obtain ⟨h1, h2⟩ := (fn_tup (k := 19)).mp h
  have hf : Fn (10 ^ 99) 20 100000000 (.tuple (ds.filter p)) := by
    refine (fn_tup (k := 19)).mpr ⟨fun d hd => h1 d (List.mem_filter.mp hd).1, ?_⟩
    have : ∀ l : List PyData, fzAll (l.filter p) ≤ fzAll l := by
      intro l
      induction l with
      | nil => simp [fzAll]
      | cons d l ih =>
        rw [List.filter_cons]
        split
        · simp only [fzAll]; omega
        · simp only [fzAll]; omega
    have := this ds
    omega
  exact (fn_lst hf).shaped big99 (by decide)
theorem shp_nil : SeqAt.shaped (.list []) = true := by decide
theorem list_nil (es : List PyData) : PyData.eqv (.list es) (.list []) = decide (es = []) := by
  cases es <;> simp [PyData.eqv, PyData.eqvAll]
theorem filter_not {α : Type} (p : α → Bool) (l : List α) : decide (l.filter (fun x => !p x) = []) = l.all p := by
  induction l with
  | nil => rfl
  | cons a l ih =>
    rw [List.filter_cons, List.all_cons]
    cases h : p a
    · simp
    · rw [if_neg (by simp), Bool.true_and]
      exact ih
theorem fine_item {ds : List PyData} {d : PyData} (h : Fine (.tuple ds)) (hd : d ∈ ds) : Fine d := by
  obtain ⟨h1, h2⟩ := (fn_tup (k := 19)).mp h
  have := fzAll_mem hd
  exact ⟨(h1 d hd).1, Nat.le_trans (h1 d hd).2 (by decide), by omega⟩
def spLTab (K : PySem.W.Frag) : Sp := fun vs H Q _ => ∃ (v : V) (d : PyData), vs = [v] ∧ Dp K H v d ∧ Fine d ∧ ∀ H', Same H H' → Q (.bl (isTabD d)) H'
theorem not_all {rows : List PyData} {wd : Int} {i : Nat} {d : PyData} (h : rows[i]? = some d) (hd : isRowD wd d = false) : isTabD (.tuple [.int wd, .tuple rows]) = false := by
  have : rows.all (isRowD wd) = false := by
    rw [List.all_eq_false]
    exact ⟨d, List.mem_of_getElem? h, by rw [hd]; decide⟩
  show (decide (0 ≤ wd) && rows.all (isRowD wd)) = false
  rw [this, Bool.and_false]
theorem ok_l_is_table (D : Df K mg "_law_is_table" s_l_is_table) (B : Bn mg) :
    Has P w K mg base "_law_is_table" 1 p_l_is_table (spLTab K) := by
  refine has_of (k := 0) D sc_l_is_table bn_l_is_table ?_ ?_
  · rintro vs H Q E ⟨v, d, rfl, _⟩
    rfl
  rintro f cdv A outer s0 H vs Q E hr ⟨v, d, rfl, hd, hF, k⟩
  refine ⟨_, (Evl.pss_cut (ps_if (PW.pt (pw_or (pt_not (pt_val (pe_callB (call_isiK (K := K) (by rfl)) (by rfl) B.isinstance_ (by decide +kernel) (pa_cons (pv 0) (pa_cons (pe_bltn (v := .ty "tuple") (u := .type "tuple") (by rfl) B.tuple_ (by decide +kernel) rfl) pa_nil))))) (pw_or (pt_cmpR op_ne (pe_callB (call_lenK (K := K) (by rfl)) (by rfl) B.len_ (by decide +kernel) (pa_cons (pv 0) pa_nil)) pe_int (nomark _)) (pw_or1 (pt_not (pt_val (pe_callB (call_isiK (K := K) (by rfl)) (by rfl) B.isinstance_ (by decide +kernel) (pa_cons (pe_ix (ix_tupK (K := K) (by rfl)) (pv 0) pe_int (fun _ _ => rfl)) (pa_cons (pe_bltn (v := .ty "tuple") (u := .type "tuple") (by rfl) B.tuple_ (by decide +kernel) rfl) pa_nil))))))))) (pss_one (ps_ret pe_bl)) pss_nil)
      (Evl.pss_cut (ps_if (PW.pt (pw_or (pt_val (pe_callB (call_isiK (K := K) (by rfl)) (by rfl) B.isinstance_ (by decide +kernel) (pa_cons (pe_ix (ix_tupK (K := K) (by rfl)) (pv 0) pe_int (fun _ _ => rfl)) (pa_cons (pe_bltn (v := .ty "bool") (u := .type "bool") (by rfl) B.bool_ (by decide +kernel) rfl) pa_nil)))) (pw_or (pt_not (pt_val (pe_callB (call_isiK (K := K) (by rfl)) (by rfl) B.isinstance_ (by decide +kernel) (pa_cons (pe_ix (ix_tupK (K := K) (by rfl)) (pv 0) pe_int (fun _ _ => rfl)) (pa_cons (pe_bltn (v := .ty "int") (u := .type "int") (by rfl) B.int_ (by decide +kernel) rfl) pa_nil))))) (pw_or1 (pt_cmpR op_lt (pe_ix (ix_tupK (K := K) (by rfl)) (pv 0) pe_int (fun _ _ => rfl)) pe_int (nomark _)))))) (pss_one (ps_ret pe_bl)) pss_nil)
      (pss_cons (ps_for PassesOwn.never rfl (pi_tupK (K := K) (by rfl) (pe_ix (ix_tupK (K := K) (by rfl)) (pv 0) pe_int (fun _ _ => rfl))) (pg_name (i := 1) sc_l_is_table.nd rfl (by first | exact Or.inl rfl | exact Or.inr rfl)) (Evl.pss_cut (ps_if (PW.pt (pw_or (pt_not (pt_val (pe_callB (call_isiK (K := K) (by rfl)) (by rfl) B.isinstance_ (by decide +kernel) (pa_cons (pv 1) (pa_cons (pe_bltn (v := .ty "tuple") (u := .type "tuple") (by rfl) B.tuple_ (by decide +kernel) rfl) pa_nil))))) (pw_or1 (pt_cmpR op_ne (pe_callB (call_lenK (K := K) (by rfl)) (by rfl) B.len_ (by decide +kernel) (pa_cons (pv 1) pa_nil)) (pe_ix (ix_tupK (K := K) (by rfl)) (pv 0) pe_int (fun _ _ => rfl)) (nomark _))))) (pss_one (ps_ret pe_bl)) pss_nil)
      (pss_one (ps_if (pt_cmpR (op_neK (K := K) (by rfl) hr.units) (pe_lc (own := [("_law_one", 2)]) rfl sc_l_is_table.nd (pi_tupK (K := K) (by rfl) (pv 1)) (blkOk_by (own := [("_law_one", 2)]) (N := n_l_is_table) (sc := defScope s_l_is_table) (by decide +kernel)) (fun _ _ _ _ _ => (pg_name (i := 2) sc_l_is_table.nd rfl (by first | exact Or.inl rfl | exact Or.inr rfl))) (fun _ _ _ _ _ => (pts_one (PW.pt (pw_or (pt_val (pe_callB (call_isiK (K := K) (by rfl)) (by rfl) B.isinstance_ (by decide +kernel) (pa_cons (pv 2) (pa_cons (pe_bltn (v := .ty "bool") (u := .type "bool") (by rfl) B.bool_ (by decide +kernel) rfl) pa_nil)))) (pw_or1 (pt_not (pt_val (pe_callB (call_isiK (K := K) (by rfl)) (by rfl) B.isinstance_ (by decide +kernel) (pa_cons (pv 2) (pa_cons (pe_bltn (v := .ty "int") (u := .type "int") (by rfl) B.int_ (by decide +kernel) rfl) pa_nil)))))))))) (fun _ _ _ _ _ => (pv 2))) (pe_lst pa_nil) (nomark _)) (pss_one (ps_ret pe_bl)) pss_nil))))
      (pss_one (ps_ret pe_bl))))), ?_⟩
  rcases tup_or d with hT | ⟨ds, rfl⟩
  · refine ⟨fun _ _ => False, ?_, fun _ _ h => h.elim⟩
    refine ⟨_, rfl, ?_⟩
    dsimp only [tCons, tC, tNil]
    refine isi_tuple hd ?_
    rw [hT]
    refine ⟨_, rfl, iteT ?_⟩
    have := k H (Same.refl H)
    rw [show isTabD d = false from by cases d <;> first | rfl | cases hT] at this
    exact this
  obtain ⟨a, xs, rfl, hs, ha⟩ := dp_tup hd
  have hl := dpa_len _ _ ha
  by_cases hn : ds.length = 2
  · obtain ⟨d0, d1, rfl⟩ := two_of hn
    obtain ⟨x0, t0, rfl, q0, ha⟩ := dpa_cons ha
    obtain ⟨x1, t1, rfl, q1, ha⟩ := dpa_cons ha
    have et := dpa_nil ha
    subst et
    rcases tup_or d1 with hT1 | ⟨rows, rfl⟩
    · refine ⟨fun _ _ => False, ?_, fun _ _ h => h.elim⟩
      refine ⟨_, rfl, ?_⟩
      dsimp only [tCons, tC, tNil]
      refine isi_tuple hd ⟨_, rfl, iteF ?_⟩
      refine ⟨_, rfl, a, _, rfl, .inr hs, rfl, _, rfl, ?_⟩
      refine iteNS rfl ?_
      refine ⟨_, rfl, a, _, 1, _, rfl, rfl, hs, rfl, ?_⟩
      dsimp only [tCons, tC, tNil]
      refine isi_tuple q1 ?_
      rw [hT1]
      refine ⟨_, rfl, iteT ?_⟩
      have := k H (Same.refl H)
      rw [show isTabD (.tuple [d0, d1]) = false from by cases d0 <;> first | rfl | (cases d1 <;> first | rfl | cases hT1)] at this
      exact this
    refine ⟨fun σ' H' => H' = H ∧ σ' = [some (.ref a), none, none], ?_, ?_⟩
    · refine ⟨_, rfl, ?_⟩
      dsimp only [tCons, tC, tNil]
      refine isi_tuple hd ⟨_, rfl, iteF ?_⟩
      refine ⟨_, rfl, a, _, rfl, .inr hs, rfl, _, rfl, ?_⟩
      refine iteNS rfl ?_
      refine ⟨_, rfl, a, _, 1, _, rfl, rfl, hs, rfl, ?_⟩
      dsimp only [tCons, tC, tNil]
      exact isi_tuple q1 ⟨_, rfl, iteF ⟨rfl, rfl⟩⟩
    rintro σ' H' ⟨rfl, rfl⟩
    by_cases hnum : isNum d0 = true
    · obtain ⟨wd, rfl⟩ := num_int hnum
      cases q0
      by_cases hneg : wd < 0
      · refine ⟨fun _ _ => False, ?_, fun _ _ h => h.elim⟩
        refine ⟨_, rfl, a, _, 0, _, rfl, rfl, hs, rfl, ?_⟩
        dsimp only [tCons, tC, tNil]
        refine isi_bool (.int wd) ⟨_, rfl, iteF ?_⟩
        refine ⟨_, rfl, a, _, 0, _, rfl, rfl, hs, rfl, ?_⟩
        dsimp only [tCons, tC, tNil]
        refine isi_int (.int wd) ⟨_, rfl, iteF ?_⟩
        refine ⟨_, rfl, a, _, 0, _, rfl, rfl, hs, rfl, _, _, rfl, rfl, _, rfl, ?_⟩
        rw [decide_eq_true hneg]
        refine iteT ?_
        have := k H' (Same.refl H')
        rw [show isTabD (.tuple [.int wd, .tuple rows]) = false from by simp only [isTabD, decide_eq_false (show ¬ 0 ≤ wd by omega), Bool.false_and]] at this
        exact this
      obtain ⟨pr, ys, rfl, hys, hya⟩ := dp_tup q1
      have hF1 : Fine (.tuple rows) := fine_item hF (by simp)
      have hz := hF1.sz
      have hz2 := fzAll_len rows
      simp only [fz] at hz
      refine ⟨fun σ2 H2 => H2 = H' ∧ σ2 = [some (.ref a), none, none], ?_, ?_⟩
      · refine ⟨_, rfl, a, _, 0, _, rfl, rfl, hs, rfl, ?_⟩
        dsimp only [tCons, tC, tNil]
        refine isi_bool (.int wd) ⟨_, rfl, iteF ?_⟩
        refine ⟨_, rfl, a, _, 0, _, rfl, rfl, hs, rfl, ?_⟩
        dsimp only [tCons, tC, tNil]
        refine isi_int (.int wd) ⟨_, rfl, iteF ?_⟩
        refine ⟨_, rfl, a, _, 0, _, rfl, rfl, hs, rfl, _, _, rfl, rfl, _, rfl, ?_⟩
        rw [decide_eq_false hneg]
        exact iteF ⟨rfl, rfl⟩
      rintro σ2 H2 ⟨rfl, rfl⟩
      refine ⟨_, rfl, a, _, 1, _, rfl, rfl, hs, rfl, pr, rfl, ⟨_, hys⟩, for_tup (K := K) (xs := ys) (fun i σ H' => Same H2 H' ∧ (∃ v1 : Option V, σ = [some (.ref a), v1, none]) ∧ (rows.take i).all (isRowD wd) = true) ?_ ?_ ?_ ?_⟩
      · exact ⟨Same.refl _, ⟨_, rfl⟩, rfl⟩
      · rintro i σ H3 _ ⟨e3, _⟩
        exact sqt_same e3 hys
      · rintro i x σ H3 hx ⟨e3, ⟨v1, rfl⟩, hall⟩
        obtain ⟨d, hd1, hd2⟩ := dpa_get _ _ i x hya hx
        have hmem := List.mem_of_getElem? hd1
        have hd3 := Dp.same e3 _ _ hd2
        have kF : isRowD wd d = false → ∀ H4, Same H3 H4 → Q (.bl false) H4 := fun hr H4 e4 => by
          have := k H4 (e3.trans e4)
          rw [not_all hd1 hr] at this
          exact this
        have kT : isRowD wd d = true → (rows.take (i + 1)).all (isRowD wd) = true := fun hr => by
          rw [List.take_succ, hd1, List.all_append, hall]
          simp [hr]
        rcases tup_or d with hT | ⟨ds, rfl⟩
        · refine ⟨fun _ _ => False, ?_, fun _ _ h => h.elim⟩
          refine ⟨_, rfl, ?_⟩
          dsimp only [tCons, tC, tNil]
          refine isi_tuple hd3 ?_
          rw [hT]
          refine ⟨_, rfl, iteT ?_⟩
          exact kF (by cases d <;> first | rfl | cases hT) H3 (Same.refl _)
        obtain ⟨b, zs, rfl, hzs, hza⟩ := dp_tup hd3
        have hlz := dpa_len _ _ hza
        by_cases hnn : (ds.length : Int) = wd
        · refine ⟨fun σ' H' => H' = H3 ∧ σ' = [some (.ref a), some (.ref b), none], ?_, ?_⟩
          · refine ⟨_, rfl, ?_⟩
            dsimp only [tCons, tC, tNil]
            refine isi_tuple hd3 ⟨_, rfl, iteF ?_⟩
            refine ⟨_, rfl, b, _, rfl, .inr hzs, _, rfl, a, _, 0, _, rfl, rfl, sqt_same e3 hs, rfl, rfl, _, rfl, ?_⟩
            exact iteNS (by rw [hlz, hnn]) ⟨rfl, rfl⟩
          · rintro σ' H' ⟨rfl, rfl⟩
            have hFd := fine_item hF1 hmem
            have hzd := hFd.sz
            have hzl := fzAll_len ds
            simp only [fz] at hzd
            refine ⟨_, rfl, b, rfl, ⟨_, hzs⟩, fun D1 hD1 => ?_⟩
            refine lctP (K := K) (j := 2) (fun d => !isNum d) hD1 hzs hza (by omega) (fun _ => rfl) ?_ (fun x H1 Q1 q => ⟨_, rfl, q⟩) ?_
            · intro x d H1 R hm hx e1 kR
              refine ⟨_, rfl, ?_⟩
              dsimp only [tCons, tC, tNil]
              refine isi_bool hx ⟨_, rfl, ?_⟩
              have kR := kR H1 (Same.refl H1)
              cases d with
              | bool b => exact iteT kR
              | int i =>
                refine iteF ?_
                refine ⟨_, rfl, ?_⟩
                dsimp only [tCons, tC, tNil]
                exact isi_int hx ⟨_, rfl, kR⟩
              | none =>
                refine iteF ?_
                refine ⟨_, rfl, ?_⟩
                dsimp only [tCons, tC, tNil]
                exact isi_int hx ⟨_, rfl, kR⟩
              | str x =>
                refine iteF ?_
                refine ⟨_, rfl, ?_⟩
                dsimp only [tCons, tC, tNil]
                exact isi_int hx ⟨_, rfl, kR⟩
              | list ds =>
                refine iteF ?_
                refine ⟨_, rfl, ?_⟩
                dsimp only [tCons, tC, tNil]
                exact isi_int hx ⟨_, rfl, kR⟩
              | tuple ds =>
                refine iteF ?_
                refine ⟨_, rfl, ?_⟩
                dsimp only [tCons, tC, tNil]
                exact isi_int hx ⟨_, rfl, kR⟩
              | dict _ => cases hx
            · intro H5 ws e5 h5 hd5
              refine ⟨Nat.zero_le _, fun p np => ?_⟩
              have e6 := Same.new (o := .lst []) np
              refine ⟨.list (ds.filter fun d => !isNum d), .list [], .lst (SqL.of (e6 _ _ h5)) (DpAll.same e6 _ _ hd5), .lst (SqL.of upd_same) .nil, shp_filter hFd, shp_nil, _, rfl, ?_⟩
              rw [list_nil, filter_not]
              have e56 := e5.trans e6
              cases hb : ds.all isNum with
              | true =>
                refine iteF ⟨e3.trans e56, ⟨_, rfl⟩, kT ?_⟩
                simp only [isRowD, decide_eq_true hnn, Bool.true_and]
                exact hb
              | false =>
                refine iteT (kF ?_ _ e56)
                simp only [isRowD, hb, Bool.and_false]
        · refine ⟨fun _ _ => False, ?_, fun _ _ h => h.elim⟩
          refine ⟨_, rfl, ?_⟩
          dsimp only [tCons, tC, tNil]
          refine isi_tuple hd3 ⟨_, rfl, iteF ?_⟩
          refine ⟨_, rfl, b, _, rfl, .inr hzs, _, rfl, a, _, 0, _, rfl, rfl, sqt_same e3 hs, rfl, rfl, _, rfl, ?_⟩
          have e : (!decide (V.int (zs.length : Int) = V.int wd)) = true := by
            rw [decide_eq_false (fun z => hnn (by have := V.int.inj z; omega))]
            rfl
          rw [e]
          refine iteT (kF ?_ H3 (Same.refl _))
          simp only [isRowD, decide_eq_false hnn, Bool.false_and]
      · rintro σ H3 ⟨e3, ⟨v1, rfl⟩, hall⟩
        have hly := dpa_len _ _ hya
        rw [hly, List.take_length] at hall
        have := k H3 e3
        simp only [isTabD, decide_eq_true (show 0 ≤ wd by omega), Bool.true_and, hall] at this
        exact this
    · have hnum : isNum d0 = false := by
        cases h : isNum d0 with
        | true => exact absurd h hnum
        | false => rfl
      have kF := k H' (Same.refl H')
      rw [tab_num hnum] at kF
      refine ⟨fun _ _ => False, ?_, fun _ _ h => h.elim⟩
      refine ⟨_, rfl, a, _, 0, _, rfl, rfl, hs, rfl, ?_⟩
      dsimp only [tCons, tC, tNil]
      refine isi_bool q0 ⟨_, rfl, ?_⟩
      cases d0 with
      | int i => cases hnum
      | bool b => exact iteT kF
      | none =>
        refine iteF ?_
        refine ⟨_, rfl, a, _, 0, _, rfl, rfl, hs, rfl, ?_⟩
        dsimp only [tCons, tC, tNil]
        exact isi_int q0 ⟨_, rfl, iteT kF⟩
      | str x =>
        refine iteF ?_
        refine ⟨_, rfl, a, _, 0, _, rfl, rfl, hs, rfl, ?_⟩
        dsimp only [tCons, tC, tNil]
        exact isi_int q0 ⟨_, rfl, iteT kF⟩
      | list ds =>
        refine iteF ?_
        refine ⟨_, rfl, a, _, 0, _, rfl, rfl, hs, rfl, ?_⟩
        dsimp only [tCons, tC, tNil]
        exact isi_int q0 ⟨_, rfl, iteT kF⟩
      | tuple ds =>
        refine iteF ?_
        refine ⟨_, rfl, a, _, 0, _, rfl, rfl, hs, rfl, ?_⟩
        dsimp only [tCons, tC, tNil]
        exact isi_int q0 ⟨_, rfl, iteT kF⟩
      | dict _ => cases q0
  · refine ⟨fun _ _ => False, ?_, fun _ _ h => h.elim⟩
    refine ⟨_, rfl, ?_⟩
    dsimp only [tCons, tC, tNil]
    refine isi_tuple hd ⟨_, rfl, iteF ?_⟩
    refine ⟨_, rfl, a, _, rfl, .inr hs, rfl, _, rfl, ?_⟩
    have e : (!decide (V.int (xs.length : Int) = V.int 2)) = true := by
      rw [decide_eq_false (fun z => hn (by have := V.int.inj z; omega))]
      rfl
    rw [e]
    refine iteT ?_
    have := k H (Same.refl H)
    rw [tab_len hn] at this
    exact this

end K55

set_option Elab.async false
set_option linter.all false
set_option maxRecDepth 100000
set_option maxHeartbeats 1000000
namespace K55
open PySem PySem.Spec PyProof.Rows L2 Gd
variable {P : Program} {w : World} {K : PySem.W.Frag} {mg : Str → Option Value} {base : Heap}
/-! ### the law's look at rounds -/
abbrev dg (rs : List (List Int)) (k : Nat) : Int := (rs.getD k []).getD k 0
theorem downsM_len (wd : Nat) (rs : List (List Int)) : (downsM wd rs).length = min wd rs.length := by
  unfold downsM
  rw [List.length_map, List.length_range]
theorem downsM_get {wd : Nat} {rs : List (List Int)} {k : Nat} (h : k < min wd rs.length) : (downsM wd rs).getD k 0 = dg rs k := by
  unfold downsM
  rw [List.getD_eq_getElem?_getD, List.getElem?_map, List.getElem?_range h]
  rfl
theorem bareP_iff {rs : List (List Int)} {n : Nat} : bareP rs n = true ↔ ∀ k, k < n → bareAt k (rs.getD k []) (rs.getD k []).length = true := by
  unfold bareP
  rw [List.all_eq_true]
  simp only [List.mem_range]
theorem areM_iff {wd : Nat} {rs : List (List Int)} : areM (downsM wd rs) = true ↔ (∀ k, k < min wd rs.length → 0 ≤ dg rs k) ∧ ∀ k, k + 1 < min wd rs.length → divM (dg rs k) (dg rs (k + 1)) = true := by
  unfold areM
  rw [Bool.and_eq_true, Bool.not_eq_true', List.any_eq_false, List.all_eq_true, downsM_len]
  constructor
  · rintro ⟨h1, h2⟩
    constructor
    · intro k hk
      have hm : (downsM wd rs).getD k 0 ∈ downsM wd rs := Gd.getD_mem (d := 0) (by rw [downsM_len]; exact hk)
      have := h1 _ hm
      rw [downsM_get hk] at this
      simp only [decide_eq_true_eq] at this
      omega
    · intro k hk
      have := h2 k (List.mem_range.mpr (by omega))
      rw [downsM_get (by omega), downsM_get (by omega)] at this
      exact this
  · rintro ⟨h1, h2⟩
    constructor
    · intro d hd
      unfold downsM at hd
      obtain ⟨k, hk, rfl⟩ := List.mem_map.mp hd
      have := h1 k (List.mem_range.mp hk)
      simp only [decide_eq_true_eq]
      show ¬ dg rs k < 0
      omega
    · intro k hk
      have := List.mem_range.mp hk
      rw [downsM_get (by omega), downsM_get (by omega)]
      exact h2 k (by omega)
theorem roundsM_iff {wd : Nat} {rs : List (List Int)} : roundsM wd rs = true ↔ (∀ k, k < rs.length → bareAt k (rs.getD k []) (rs.getD k []).length = true) ∧ (∀ k, k < min wd rs.length → 0 ≤ dg rs k) ∧ ∀ k, k + 1 < min wd rs.length → divM (dg rs k) (dg rs (k + 1)) = true := by
  unfold roundsM
  rw [Bool.and_eq_true, bareP_iff, areM_iff]
theorem bareAt_nil {i : Nat} {r : List Int} : bareAt i r 0 = true := rfl
def spLIsRounds (K : PySem.W.Frag) : Sp := fun vs H Q _ => ∃ (v : V) (d : PyData), vs = [v] ∧ Dp K H v d ∧ Fine d ∧ ∀ H', Same H H' → Q (.bl (isRoundsD d)) H'
theorem fmod_one (z : Int) : z.fmod 1 = 0 := by
  have h1 := fmod_nn (a := z) (b := 1) (by decide)
  have h2 := fmod_lt' (a := z) (b := 1) (by decide)
  omega
theorem ok_l_is_rounds (D : Df K mg "_law_is_rounds" s_l_is_rounds) (B : Bn mg) (h_l_is_table : Has P w K mg base "_law_is_table" 1 p_l_is_table (spLTab K)) :
    Has P w K mg base "_law_is_rounds" 2 p_l_is_rounds (spLIsRounds K) := by
  refine has_of (k := 1) D sc_l_is_rounds bn_l_is_rounds ?_ ?_
  · rintro vs H Q E ⟨v, d, rfl, _⟩
    rfl
  rintro f cdv A outer s0 H vs Q E hr ⟨v, d, rfl, hd, hF, k⟩
  refine ⟨_, (pss_cons (ps_if (pt_not (pt_val (pe_has (h_l_is_table) (hr.mono (by first | decide | omega)) (by rfl) (pa_cons (pv 0) pa_nil)))) (pss_one (ps_ret pe_bl)) pss_nil)
      (pss_cons (ps_asg (pv 0) (pg_tupK (K := K) (n := 2) (by rfl) (by rfl) (pgs_cons (pg_name (i := 1) sc_l_is_rounds.nd rfl (by first | exact Or.inl rfl | exact Or.inr rfl)) (pgs_cons (pg_name (i := 2) sc_l_is_rounds.nd rfl (by first | exact Or.inl rfl | exact Or.inr rfl)) pgs_nil))))
      (pss_cons (ps_asg pe_int (pg_name (i := 3) sc_l_is_rounds.nd rfl (by first | exact Or.inl rfl | exact Or.inr rfl)))
      (pss_cons (ps_for PassesOwn.never rfl (pi_range1 (by rfl) B.range_ (pa_cons (pe_callB (call_lenK (K := K) (by rfl)) (by rfl) B.len_ (by decide +kernel) (pa_cons (pv 2) pa_nil)) pa_nil)) (pg_name (i := 4) sc_l_is_rounds.nd rfl (by first | exact Or.inl rfl | exact Or.inr rfl)) (pss_cons (ps_if (pt_cmpR (op_neK (K := K) (by rfl) hr.units) (pe_lc (own := [("_law_j", 6)]) rfl sc_l_is_rounds.nd (pi_range1 (by rfl) B.range_ (pa_cons (pv 1) pa_nil)) (blkOk_by (own := [("_law_j", 6)]) (N := n_l_is_rounds) (sc := defScope s_l_is_rounds) (by decide +kernel)) (fun _ _ _ _ _ => (pg_name (i := 6) sc_l_is_rounds.nd rfl (by first | exact Or.inl rfl | exact Or.inr rfl))) (fun _ _ _ _ _ => (pts_one (PW.pt (pw_and (pt_cmpR op_ne (pv 6) (pv 4) (nomark _)) (pw_and1 (pt_cmpR op_ne (pe_ix (ix_tupK (K := K) (by rfl)) (pe_ix (ix_tupK (K := K) (by rfl)) (pv 2) (pv 4) (fun _ _ => rfl)) (pv 6) (fun _ _ => rfl)) pe_int (nomark _))))))) (fun _ _ _ _ _ => (pv 6))) (pe_lst pa_nil) (nomark _)) (pss_one (ps_ret pe_bl)) pss_nil)
      (pss_one (ps_if (pt_cmpR op_lt (pv 4) (pv 1) (nomark _)) (pss_cons (ps_asg (pe_ix (ix_tupK (K := K) (by rfl)) (pe_ix (ix_tupK (K := K) (by rfl)) (pv 2) (pv 4) (fun _ _ => rfl)) (pv 4) (fun _ _ => rfl)) (pg_name (i := 5) sc_l_is_rounds.nd rfl (by first | exact Or.inl rfl | exact Or.inr rfl)))
      (Evl.pss_cut (ps_if (PW.pt (pw_or (pt_cmpR op_lt (pv 5) pe_int (nomark _)) (pw_or (PW.pt (pw_and (pt_cmpR op_eq (pv 3) pe_int (nomark _)) (pw_and1 (pt_cmpR op_ne (pv 5) pe_int (nomark _))))) (pw_or1 (PW.pt (pw_and (pt_cmpR op_gt (pv 3) pe_int (nomark _)) (pw_and1 (pt_cmpR op_ne (pe_op op_modN (pv 5) (pv 3)) pe_int (nomark _))))))))) (pss_one (ps_ret pe_bl)) pss_nil)
      (pss_one (ps_asg (pv 5) (pg_name (i := 3) sc_l_is_rounds.nd rfl (by first | exact Or.inl rfl | exact Or.inr rfl)))))) pss_nil))))
      (pss_one (ps_ret pe_bl)))))), ?_⟩
  refine ⟨_, rfl, v, d, rfl, hd, hF, fun H1 e1 => ⟨_, rfl, ?_⟩⟩
  by_cases hT : isTabD d = true
  · rw [hT]
    refine iteF ?_
    obtain ⟨n, rs, rfl, hw⟩ := tab_true hT
    obtain ⟨hl1, hl2⟩ := tab_fz hF.sz
    have k := fun H' e => (isRounds_tab hw) ▸ k H' e
    have hv1 := Dp.same e1 _ _ hd
    obtain ⟨pt, ur, rfl, htab, hrows⟩ := dp_tab hv1
    obtain ⟨pr, xs, rfl, hxs, hall, hlen⟩ := dp_rows hrows
    refine ⟨_, rfl, pt, _, rfl, htab, rfl, _, _, rfl, _, _, rfl, rfl, ?_⟩
    refine ⟨_, rfl, pr, _, rfl, .inr hxs, (rs.length : Int), by rw [hlen], by omega, by omega, for_range (lo := 0) (n := rs.length) (fun i σ H' => ∃ (z : Int) (v4 v5 : Option V), Same H1 H' ∧
      σ = [some (.ref pt), some (.int n), some (.ref pr), some (.int z), v4, v5, none] ∧ (∀ k, k < i → bareAt k (rs.getD k []) (rs.getD k []).length = true) ∧ (∀ k, k < min n i → 0 ≤ dg rs k) ∧
      (∀ k, k + 1 < min n i → divM (dg rs k) (dg rs (k + 1)) = true) ∧ (min n i = 0 → z = 1) ∧ (∀ k, min n i = k + 1 → z = dg rs k)) ?_ ?_ ?_⟩
    · exact ⟨1, none, none, Same.refl _, rfl, fun k hk => absurd hk (by omega), fun k hk => absurd hk (by omega), fun k hk => absurd hk (by omega), fun _ => rfl, fun k hk => absurd hk (by omega)⟩
    · rintro i σ H2 hi ⟨z, v4, v5, e2, rfl, hbare, hpos, hdiv, hz0, hz1⟩
      have ei : (0 : Int) + (i : Int) = ((i : Nat) : Int) := by omega
      rw [ei]
      have kF : ¬ roundsM n rs = true → ∀ H4, Same H2 H4 → Q (.bl false) H4 := fun hr H4 e4 => by
        have := k H4 (e1.trans (e2.trans e4))
        rw [show roundsM n rs = false by
          cases h : roundsM n rs with
          | true => exact absurd h hr
          | false => rfl] at this
        exact this
      obtain ⟨x, hx, hdx⟩ := dpa_at _ _ i _ hall (rows_getD hi)
      obtain ⟨p, rfl, hp⟩ := dp_row hdx
      have hrl := hw _ (Gd.getD_mem (d := []) hi)
      have hrl2 := hl2 _ (Gd.getD_mem (d := []) hi)
      refine ⟨_, rfl, (n : Int), rfl, by omega, by omega, fun D1 hD1 => ?_⟩
      refine lcGr (lo := 0) (n := n) (fun j H3 => Same H2 H3 ∧ ∃ ys : List Int, H3 D1 = some (.lst (ys.map V.int)) ∧ ys.length ≤ j ∧ (ys = [] ↔ bareAt i (rs.getD i []) j = true)) ?_ ?_ ?_
      · exact ⟨Same.new hD1, [], upd_same, by simp, by simp [bareAt_nil]⟩
      · rintro j H3 hj ⟨e3, ys, h3, hy1, hy2⟩
        have ej : (0 : Int) + (j : Int) = ((j : Nat) : Int) := by omega
        rw [ej]
        refine ⟨rfl, ?_⟩
        refine tAnd_dec (b1 := !decide (V.int (j : Int) = V.int (i : Int))) (b2 := !decide (V.int ((rs.getD i []).getD j 0) = V.int 0)) (fun Q1 q1 => ⟨_, rfl, _, rfl, rfl, _, rfl, q1⟩)
          (fun Q1 q1 => ⟨_, rfl, _, rfl, pr, xs, _, .ref p, rfl, rfl, sqt_same (e2.trans e3) hxs, atI_nat hx, _, rfl, p, _, _, .int ((rs.getD i []).getD j 0), rfl, rfl, sqt_same (e2.trans e3) hp, atI_nat (int_at (by omega)), rfl, _, rfl, q1⟩) ?_
        by_cases hij : j = i
        · rw [show (!decide (V.int (j : Int) = V.int (i : Int))) = false by simp [hij], Bool.false_and]
          refine iteF ⟨e3, ys, h3, by omega, ?_⟩
          rw [hy2, bareAt_succ, hij]
          simp
        · rw [show (!decide (V.int (j : Int) = V.int (i : Int))) = true by simp; omega, Bool.true_and]
          by_cases hzz : (rs.getD i []).getD j 0 = 0
          · rw [show (!decide (V.int ((rs.getD i []).getD j 0) = V.int 0)) = false by rw [hzz]; rfl]
            refine iteF ⟨e3, ys, h3, by omega, ?_⟩
            rw [hy2, bareAt_succ, hzz]
            simp
          · rw [show (!decide (V.int ((rs.getD i []).getD j 0) = V.int 0)) = true by rw [decide_eq_false (fun q => hzz (V.int.inj q))]; rfl]
            refine iteT ⟨_, rfl, _, h3, ?_, Gd.Same.put e3 hD1, ys ++ [(j : Int)], ?_, ?_, ?_⟩
            · rw [List.length_map, sizeLine_eq]
              omega
            · rw [upd_same, List.map_append]
              rfl
            · rw [List.length_append]
              simp
              omega
            · refine ⟨fun q => absurd q (by simp), fun q => ?_⟩
              rw [bareAt_succ, decide_eq_false hij, decide_eq_false hzz] at q
              simp at q
      · rintro H3 ⟨e3, ys, h3, hy1, hy2⟩
        rw [← hrl] at hy2
        refine ⟨Nat.zero_le _, fun q nq => ?_⟩
        have e4 := Same.new (o := .lst []) nq
        have e34 := e3.trans e4
        refine ⟨.list (ys.map PyData.int), .list [], .lst (SqL.of (e4 _ _ h3)) (dp_ints ys), .lst (SqL.of upd_same) .nil, ints_shaped ys, ints_shaped [], _, rfl, ?_⟩
        rw [ints_nil]
        by_cases hys : ys = []
        · rw [decide_eq_true hys]
          refine iteF ?_
          have hb := hy2.mp hys
          have hbare' : ∀ k, k < i + 1 → bareAt k (rs.getD k []) (rs.getD k []).length = true := fun k hk => by
            by_cases hki : k = i
            · rw [hki]
              exact hb
            · exact hbare k (by omega)
          refine ⟨_, rfl, _, rfl, _, _, rfl, rfl, _, rfl, ?_⟩
          by_cases hin : i < n
          · rw [decide_eq_true (show ((i : Nat) : Int) < (n : Int) by omega)]
            refine iteT ?_
            have e24 := e2.trans e34
            refine ⟨_, rfl, _, rfl, pr, xs, _, .ref p, rfl, rfl, sqt_same e24 hxs, atI_nat hx, _, rfl, p, _, _, .int (dg rs i), rfl, rfl, sqt_same e24 hp, atI_nat (int_at (by omega)), ?_⟩
            -- what the law finds amiss
            have good : ¬ (dg rs i < 0) → ((z = 0 ∧ dg rs i ≠ 0) ∨ (0 < z ∧ (dg rs i).fmod z ≠ 0) → False) → (∀ k, k < min n (i + 1) → 0 ≤ dg rs k) ∧ ∀ k, k + 1 < min n (i + 1) → divM (dg rs k) (dg rs (k + 1)) = true := by
              intro g1 g2
              refine ⟨fun k hk => ?_, fun k hk => ?_⟩
              · by_cases hki : k = i
                · rw [hki]
                  omega
                · exact hpos k (by omega)
              · by_cases hki : k + 1 = i
                · have hz := hz1 k (by omega)
                  have hzp := hpos k (by omega)
                  rw [hki, ← hz]
                  unfold divM
                  by_cases hz0 : z = 0
                  · rw [if_pos hz0]
                    refine decide_eq_true ?_
                    exact Classical.byContradiction fun q => g2 (.inl ⟨hz0, q⟩)
                  · rw [if_neg hz0]
                    refine decide_eq_true ?_
                    exact Classical.byContradiction fun q => g2 (.inr ⟨by omega, q⟩)
                · exact hdiv k (by omega)
            have bad : (dg rs i < 0 ∨ (z = 0 ∧ dg rs i ≠ 0) ∨ (0 < z ∧ (dg rs i).fmod z ≠ 0)) → ¬ roundsM n rs = true := by
              intro g1 g2
              obtain ⟨r1, r2, r3⟩ := roundsM_iff.mp g2
              rcases g1 with g | g | g
              · have := r2 i (by omega)
                omega
              · cases i with
                | zero =>
                  have := hz0 (by omega)
                  omega
                | succ j =>
                  have hz := hz1 j (by omega)
                  have := r3 j (by omega)
                  rw [← hz] at this
                  unfold divM at this
                  rw [if_pos g.1] at this
                  exact g.2 (of_decide_eq_true this)
              · cases i with
                | zero =>
                  have hz := hz0 (by omega)
                  rw [hz, fmod_one] at g
                  exact g.2 rfl
                | succ j =>
                  have hz := hz1 j (by omega)
                  have := r3 j (by omega)
                  rw [← hz] at this
                  unfold divM at this
                  rw [if_neg (by omega)] at this
                  exact g.2 (of_decide_eq_true this)
            have fin : ¬ (dg rs i < 0) → ((z = 0 ∧ dg rs i ≠ 0) ∨ (0 < z ∧ (dg rs i).fmod z ≠ 0) → False) → ∃ (z' : Int) (v4 v5 : Option V), Same H1 (upd H3 q (.lst [])) ∧
                [some (V.ref pt), some (.int n), some (.ref pr), some (.int (dg rs i)), some (.int (i : Int)), some (.int (dg rs i)), none] = [some (.ref pt), some (.int n), some (.ref pr), some (.int z'), v4, v5, none] ∧ (∀ k, k < i + 1 → bareAt k (rs.getD k []) (rs.getD k []).length = true) ∧ (∀ k, k < min n (i + 1) → 0 ≤ dg rs k) ∧
                (∀ k, k + 1 < min n (i + 1) → divM (dg rs k) (dg rs (k + 1)) = true) ∧ (min n (i + 1) = 0 → z' = 1) ∧ (∀ k, min n (i + 1) = k + 1 → z' = dg rs k) := by
              intro g1 g2
              obtain ⟨h1, h2⟩ := good g1 g2
              refine ⟨_, _, _, e24, rfl, hbare', h1, h2, fun q => absurd q (by omega), fun k hk => ?_⟩
              rw [show k = i by omega]
            refine ⟨fun σ' H' => H' = upd H3 q (.lst []) ∧ (¬ (dg rs i < 0)) ∧ ((z = 0 ∧ dg rs i ≠ 0) ∨ (0 < z ∧ (dg rs i).fmod z ≠ 0) → False) ∧ σ' = [some (.ref pt), some (.int n), some (.ref pr), some (.int z), some (.int (i : Int)), some (.int (dg rs i)), none], ?_, ?_⟩
            · refine ⟨_, rfl, _, _, rfl, rfl, _, rfl, ?_⟩
              by_cases g1 : dg rs i < 0
              · rw [decide_eq_true g1]
                exact iteT (kF (bad (.inl g1)) _ e34)
              · rw [decide_eq_false g1]
                refine iteF ?_
                refine tAnd_dec (b1 := decide (V.int z = V.int 0)) (b2 := !decide (V.int (dg rs i) = V.int 0)) (fun Q1 q1 => ⟨_, rfl, rfl, _, rfl, q1⟩) (fun Q1 q1 => ⟨_, rfl, rfl, _, rfl, q1⟩) ?_
                by_cases g2 : z = 0 ∧ dg rs i ≠ 0
                · rw [show (decide (V.int z = V.int 0) && !decide (V.int (dg rs i) = V.int 0)) = true by rw [g2.1, decide_eq_false (fun q => g2.2 (V.int.inj q))]; rfl]
                  exact iteT (kF (bad (.inr (.inl g2))) _ e34)
                · rw [show (decide (V.int z = V.int 0) && !decide (V.int (dg rs i) = V.int 0)) = false by
                    by_cases q : z = 0
                    · have : dg rs i = 0 := Classical.byContradiction fun r => g2 ⟨q, r⟩
                      rw [this, decide_eq_true (rfl : V.int 0 = V.int 0)]
                      simp
                    · rw [decide_eq_false (fun r => q (V.int.inj r))]
                      rfl]
                  refine iteF ?_
                  refine ⟨_, rfl, _, _, rfl, rfl, _, rfl, ?_⟩
                  by_cases g3 : 0 < z
                  · rw [decide_eq_true (show z > 0 from g3)]
                    refine iteT ?_
                    refine ⟨_, rfl, _, rfl, _, _, rfl, rfl, (by omega), rfl, _, rfl, ?_⟩
                    by_cases g4 : (dg rs i).fmod z = 0
                    · rw [show (!decide (V.int ((dg rs i).fmod z) = V.int 0)) = false by rw [g4]; rfl]
                      exact iteF ⟨rfl, g1, fun h => h.elim g2 (fun h => h.2 g4), rfl⟩
                    · rw [show (!decide (V.int ((dg rs i).fmod z) = V.int 0)) = true by rw [decide_eq_false (fun r => g4 (V.int.inj r))]; rfl]
                      exact iteT (kF (bad (.inr (.inr ⟨g3, g4⟩))) _ e34)
                  · rw [decide_eq_false (show ¬ z > 0 from g3)]
                    exact iteF (iteF ⟨rfl, g1, fun h => h.elim g2 (fun h => g3 h.1), rfl⟩)
            · rintro σ' H' ⟨rfl, g1, g2, rfl⟩
              exact ⟨_, rfl, fin g1 g2⟩
          · rw [decide_eq_false (show ¬ ((i : Nat) : Int) < (n : Int) by omega)]
            refine iteF ⟨z, _, _, e2.trans e34, rfl, hbare', fun k hk => hpos k (by omega), fun k hk => hdiv k (by omega), fun q => hz0 (by omega), fun k hk => hz1 k (by omega)⟩
        · rw [decide_eq_false hys]
          refine iteT (kF (fun g => hys (hy2.mpr ((roundsM_iff.mp g).1 i hi))) _ e34)
    · rintro σ H2 ⟨z, v4, v5, e2, rfl, hbare, hpos, hdiv, hz0, hz1⟩
      have := k H2 (e1.trans e2)
      rw [roundsM_iff.mpr ⟨hbare, hpos, hdiv⟩] at this
      exact this
  · have hT : isTabD d = false := by
      cases h : isTabD d with
      | true => exact absurd h hT
      | false => rfl
    rw [hT]
    refine iteT ?_
    have := k H1 e1
    rw [show isRoundsD d = false by unfold isRoundsD; rw [hT]; rfl] at this
    exact this

end K55

set_option Elab.async false
set_option linter.all false
set_option maxRecDepth 100000
set_option maxHeartbeats 1000000
namespace K55
open PySem PySem.Spec PyProof.Rows L2 Gd
variable {P : Program} {w : World} {K : PySem.W.Frag} {mg : Str → Option Value} {base : Heap}
/-! ### bent things -/
def isS : PyData → Bool
  | .str _ => true
  | _ => false
theorem isi_str {H : Hp} {v : V} {d : PyData} {Q : VK} (h : Dp K H v d) (q : Q (.bl (isS d)) H) : rIsi K [v, .ty "str"] H Q := by
  refine isi_dp h ?_ q
  cases d <;> first | (simp only [tyN, isS]; decide +kernel) | cases h
def SOk (x : Str) (n : Nat) : Prop := PyData.strOk x = true ∧ x.length ≤ n
theorem SOk.cut {x : Str} {n : Nat} (h : SOk x n) (lo hi : Option Int) : SOk (cutS x lo hi) n := by
  refine ⟨?_, Nat.le_trans (cutS_length x lo hi) h.2⟩
  have h1 := h.1
  unfold PyData.strOk at h1 ⊢
  rw [Array.all_eq_true_iff_forall_mem] at h1 ⊢
  intro c hc
  refine h1 c ?_
  unfold cutS at hc
  simp only [List.mem_toArray] at hc
  exact Array.mem_toList_iff.mp (List.mem_of_mem_drop (List.mem_of_mem_take hc))
theorem SOk.app {x y : Str} {n m : Nat} (h : SOk x n) (g : SOk y m) : SOk (x ++ y) (n + m) := by
  constructor
  · have h1 := h.1
    have g1 := g.1
    unfold PyData.strOk at h1 g1 ⊢
    rw [Array.all_eq_true_iff_forall_mem] at h1 g1 ⊢
    intro c hc
    have hc : c ∈ x.cps ++ y.cps := hc
    rcases Array.mem_append.mp hc with q | q
    · exact h1 c q
    · exact g1 c q
  · have e : (x ++ y).length = x.length + y.length := by
      show (x.cps ++ y.cps).size = _
      rw [Array.size_append]
      rfl
    rw [e]
    have := h.2
    have := g.2
    omega
theorem SOk.fn {x : Str} {n M k : Nat} (h : SOk x n) : Fn M k (1 + n) (.str x) := by
  have := h.2
  exact ⟨by simpa only [fok] using h.1, by simp [PyData.depth], by simp only [fz]; omega⟩
def oddL : List PyData := [.int 0, .int 1, .int (-1), .tuple [], .none, .bool true, .str "rounds", .tuple [.int 0, .tuple []], .tuple [.int 1, .tuple [.tuple [.int 1]]]]
theorem odd_fine : ∀ d ∈ oddL, Fn (10 ^ 40) 3 7 d := by
  intro d hd
  simp only [oddL, List.mem_cons, List.not_mem_nil, or_false] at hd
  rcases hd with rfl | rfl | rfl | rfl | rfl | rfl | rfl | rfl | rfl <;> exact ⟨by decide +kernel, by decide +kernel, by decide +kernel⟩
theorem bent_tup {M k m : Nat} {es : List PyData} (hk : ∀ d ∈ es, fok (2 * M) d = true ∧ d.depth ≤ k + 3) (hs : 1 + fzAll es ≤ 2 * m + 1000) : Fn (2 * M) (k + 1 + 3) (2 * m + 1000) (.tuple es) :=
  (fn_tup (k := k + 3)).mpr ⟨hk, hs⟩
theorem bent_eight {M k m i : Nat} {ds : List PyData} {dm : PyData} (hi1 : ∀ d ∈ ds, fok M d = true ∧ d.depth ≤ k) (hs1 : 1 + fzAll ds ≤ m) (hdm : Fn (10 ^ 40) 3 7 dm) (hM : 10 ^ 40 ≤ M) :
    ∀ d ∈ [PyData.tuple ((ds.take i ++ [dm]) ++ ds.drop i), .tuple (ds.take i ++ ds.drop (i + 1)), .tuple ((ds.take i ++ [dm]) ++ ds.drop (i + 1)), .list ds, .tuple (ds ++ (ds.drop (ds.length - 1)).take (ds.length - (ds.length - 1))), .tuple ds.reverse, .tuple [.tuple ds], .tuple []], Fn (2 * M) (k + 1 + 3) (2 * m + 1000) d := by
  have ok : ∀ d ∈ ds, fok (2 * M) d = true ∧ d.depth ≤ k + 3 := fun d hd => ⟨fok_mono (by omega) _ (hi1 d hd).1, by have := (hi1 d hd).2; omega⟩
  have okm : fok (2 * M) dm = true ∧ dm.depth ≤ k + 3 := ⟨fok_mono (by omega) _ hdm.ok, by have := hdm.dep; omega⟩
  have t1 := fz_take ds i
  have t3 := fz_drop1 ds i
  have hz := hdm.sz
  intro d hd
  simp only [List.mem_cons, List.not_mem_nil, or_false] at hd
  rcases hd with rfl | rfl | rfl | rfl | rfl | rfl | rfl | rfl
  · refine bent_tup (fun d hd' => ?_) ?_
    · rcases List.mem_append.mp hd' with h | h
      · rcases List.mem_append.mp h with h | h
        · exact ok d (List.mem_of_mem_take h)
        · rw [List.mem_singleton.mp h]
          exact okm
      · exact ok d (List.mem_of_mem_drop h)
    · rw [fzAll_app, fzAll_app]
      simp only [fzAll]
      omega
  · refine bent_tup (fun d hd' => ?_) ?_
    · rcases List.mem_append.mp hd' with h | h
      · exact ok d (List.mem_of_mem_take h)
      · exact ok d (List.mem_of_mem_drop h)
    · rw [fzAll_app]
      omega
  · refine bent_tup (fun d hd' => ?_) ?_
    · rcases List.mem_append.mp hd' with h | h
      · rcases List.mem_append.mp h with h | h
        · exact ok d (List.mem_of_mem_take h)
        · rw [List.mem_singleton.mp h]
          exact okm
      · exact ok d (List.mem_of_mem_drop h)
    · rw [fzAll_app, fzAll_app]
      simp only [fzAll]
      omega
  · exact fn_lst (bent_tup ok (by omega))
  · refine bent_tup (fun d hd' => ?_) ?_
    · rcases List.mem_append.mp hd' with h | h
      · exact ok d h
      · exact ok d (List.mem_of_mem_drop (List.mem_of_mem_take h))
    · have q1 := fz_take (ds.drop (ds.length - 1)) (ds.length - (ds.length - 1))
      have q2 := fz_take ds (ds.length - 1)
      rw [fzAll_app]
      omega
  · refine bent_tup (fun d hd' => ok d (List.mem_reverse.mp hd')) ?_
    rw [fz_rev]
    omega
  · refine bent_tup (fun d hd' => ?_) ?_
    · rw [List.mem_singleton.mp hd']
      have := (fn_tup (M := 2 * M) (k := k) (n := m) (ds := ds)).mpr ⟨fun d hd => ⟨(ok d hd).1, (hi1 d hd).2⟩, hs1⟩
      exact ⟨this.ok, Nat.le_trans this.dep (by omega)⟩
    · simp only [fzAll, fz]
      omega
  · refine bent_tup (fun d hd' => by cases hd') ?_
    simp only [fzAll]
    omega
theorem int_fn {M k n : Nat} {y : Int} (h : y.natAbs ≤ M) (hn : 1 ≤ n) : Fn M k n (.int y) := ⟨by simp only [fok, decide_eq_true_eq]; exact h, by simp [PyData.depth], by simp only [fz]; exact hn⟩
theorem ten30 : (10 : Int) ^ Int.toNat 30 = 1000000000000000000000000000000 := by decide
theorem bent_ten {M kd m : Nat} {i : Int} {d : PyData} {t : Str} {b : Bool} (h : i.natAbs ≤ M) (hF : Fn M kd m d) (ht : SOk t 101) (hM : 10 ^ 40 ≤ M) :
    ∀ e ∈ [PyData.int (i + 1), .int (i - 1), .int (0 - i), .int (i * 2), .int 0, .bool b, .str t, .none, .tuple [d], .int (i + 10 ^ Int.toNat 30)], Fn (2 * M) (kd + 3) (2 * m + 1000) e := by
  intro e he
  simp only [List.mem_cons, List.not_mem_nil, or_false] at he
  rcases he with rfl | rfl | rfl | rfl | rfl | rfl | rfl | rfl | rfl | rfl
  · exact int_fn (by omega) (by omega)
  · exact int_fn (by omega) (by omega)
  · exact int_fn (by omega) (by omega)
  · exact int_fn (by omega) (by omega)
  · exact int_fn (by simp) (by omega)
  · exact ⟨by simp [fok], by simp [PyData.depth], by simp only [fz]; omega⟩
  · exact (ht.fn (M := 2 * M) (k := kd + 3)).mono (Nat.le_refl _) (Nat.le_refl _) (by omega)
  · exact ⟨by simp [fok], by simp [PyData.depth], by simp only [fz]; omega⟩
  · refine (fn_tup (k := kd + 2)).mpr ⟨fun x hx => ?_, ?_⟩
    · rw [List.mem_singleton.mp hx]
      exact ⟨fok_mono (by omega) _ hF.ok, Nat.le_trans hF.dep (by omega)⟩
    · have := hF.sz
      simp only [fzAll]
      omega
  · rw [ten30]
    exact int_fn (by omega) (by omega)
def spBentX (K : PySem.W.Frag) (k : Nat) : Sp := fun vs H Q _ => ∃ (a s : Addr) (v : V) (d : PyData) (n M m kd dp : Nat), vs = [.ref a, v, .int dp] ∧ dp ≤ k ∧ Fx H a s n ∧ n + 10 * (k + 1) ≤ 1000000 ∧ k ≤ 40 ∧ Dq K a H v d ∧ Fn M kd m d ∧ 10 ^ 40 ≤ M ∧ M < 10 ^ 98 ∧ kd ≤ 40 ∧ m ≤ 40000 ∧
  ∀ (v' : V) (H' : Hp) (d' : PyData), Sb a H H' → Fx H' a s (n + 10 * (k + 1)) → Dq K a H' v' d' → Fn (2 * M) (kd + 3) (2 * m + 1000) d' → Q v' H'
def spBX (K : PySem.W.Frag) : Nat → Sp
  | 0 => fun _ _ _ _ => False
  | k + 1 => spBentX K k

end K55

set_option Elab.async false
set_option linter.all false
set_option maxRecDepth 100000
set_option maxHeartbeats 1000000
namespace K55
open PySem PySem.Spec PyProof.Rows L2 Gd
variable {P : Program} {w : World} {K : PySem.W.Frag} {mg : Str → Option Value} {base : Heap}
theorem letters_at {r : Nat} (h : r < 30) : ∃ c, atI (Str.ofString "abcdefghijklmnopqrstuvwxyzA 0-").cps.toList (r : Int) = some c ∧ SOk ⟨#[c]⟩ 1 := by
  have hl : (Str.ofString "abcdefghijklmnopqrstuvwxyzA 0-").cps.toList.length = 30 := by decide +kernel
  have ha : (Str.ofString "abcdefghijklmnopqrstuvwxyzA 0-").cps.toList.all (fun c => decide (c < 1114112)) = true := by decide +kernel
  obtain ⟨c, hc⟩ : ∃ c, (Str.ofString "abcdefghijklmnopqrstuvwxyzA 0-").cps.toList[r]? = some c := ⟨_, List.getElem?_eq_getElem (by rw [hl]; exact h)⟩
  refine ⟨c, atI_nat hc, ?_, Nat.le_refl _⟩
  have := List.all_eq_true.mp ha c (List.mem_of_getElem? hc)
  unfold PyData.strOk
  simpa using this
theorem bent_step {j k : Nat} (hj : 2 ≤ j) (D : Df K mg "_law_bent" s_l_bent) (B : Bn mg) (h_l_draw : Has P w K mg base "_law_draw" 1 p_l_draw spDrawX)
    (h_l_bent : Has P w K mg base "_law_bent" j p_l_bent (spBX K k)) :
    Has P w K mg base "_law_bent" (j + 1) p_l_bent (spBX K (k + 1)) := by
  refine has_of (k := j) D sc_l_bent bn_l_bent ?_ ?_
  · rintro vs H Q E ⟨a, s, v, d, n, M, m, kd, dp, rfl, _⟩
    rfl
  rintro f cdv A outer s0 H vs Q E hr ⟨a, s, v, d, n, M, m, kd, dp, rfl, hdp, f0, hn, hk40, hd, hF, hM, hM2, hkd, hm, ke⟩
  have hM3 : M < 2 ^ 1900 := Nat.lt_trans hM2 (Nat.lt_of_lt_of_le (by decide : 10 ^ 98 < 2 ^ 400) (Nat.pow_le_pow_right (by decide) (by decide)))
  refine ⟨_, (pss_cons (ps_asg (pe_has (h_l_draw) (hr.mono (by first | decide | omega)) (by rfl) (pa_cons (pv 0) (pa_cons pe_int pa_nil))) (pg_name (i := 3) sc_l_bent.nd rfl (by first | exact Or.inl rfl | exact Or.inr rfl)))
      (Evl.pss_cut (ps_if (PW.pt (pw_and (pt_val (pe_callB (call_isiK (K := K) (by rfl)) (by rfl) B.isinstance_ (by decide +kernel) (pa_cons (pv 1) (pa_cons (pe_bltn (v := .ty "tuple") (u := .type "tuple") (by rfl) B.tuple_ (by decide +kernel) rfl) pa_nil)))) (pw_and (pt_cmpR (op_neK (K := K) (by rfl) hr.units) (pv 1) (pe_tup pa_nil) (nomark _)) (pw_and (pt_cmpR op_gt (pv 2) pe_int (nomark _)) (pw_and1 (pt_cmpR op_gt (pv 3) pe_int (nomark _))))))) (pss_cons (ps_asg (pe_has (h_l_draw) (hr.mono (by first | decide | omega)) (by rfl) (pa_cons (pv 0) (pa_cons (pe_callB (call_lenK (K := K) (by rfl)) (by rfl) B.len_ (by decide +kernel) (pa_cons (pv 1) pa_nil)) pa_nil))) (pg_name (i := 4) sc_l_bent.nd rfl (by first | exact Or.inl rfl | exact Or.inr rfl)))
      (pss_one (ps_ret (pe_op (op_catK (K := K) (by rfl)) (pe_op (op_catK (K := K) (by rfl)) (pe_slice (sl_tupK (K := K) (by rfl)) (pv 1) po_none (po_some (pv 4))) (pe_tup (pa_cons (pe_has (h_l_bent) (hr.mono (by first | decide | omega)) (by rfl) (pa_cons (pv 0) (pa_cons (pe_ix (ix_tupK (K := K) (by rfl)) (pv 1) (pv 4) (fun _ _ => rfl)) (pa_cons (pe_op op_sub (pv 2) pe_int) pa_nil)))) pa_nil))) (pe_slice (sl_tupK (K := K) (by rfl)) (pv 1) (po_some (pe_op op_add (pv 4) pe_int)) po_none))))) pss_nil)
      (pss_cons (ps_if (pt_val (pe_callB (call_isiK (K := K) (by rfl)) (by rfl) B.isinstance_ (by decide +kernel) (pa_cons (pv 1) (pa_cons (pe_bltn (v := .ty "tuple") (u := .type "tuple") (by rfl) B.tuple_ (by decide +kernel) rfl) pa_nil)))) (pss_cons (ps_asg (pe_has (h_l_draw) (hr.mono (by first | decide | omega)) (by rfl) (pa_cons (pv 0) (pa_cons (pe_op op_add (pe_callB (call_lenK (K := K) (by rfl)) (by rfl) B.len_ (by decide +kernel) (pa_cons (pv 1) pa_nil)) pe_int) pa_nil))) (pg_name (i := 4) sc_l_bent.nd rfl (by first | exact Or.inl rfl | exact Or.inr rfl)))
      (pss_cons (ps_asg (pe_ix (ix_listK (K := K) (by rfl)) (pe_lst (pa_cons pe_int (pa_cons pe_int (pa_cons (pe_un un_neg pe_int) (pa_cons (pe_tup pa_nil) (pa_cons pe_non (pa_cons pe_bl (pa_cons pe_str (pa_cons (pe_tup (pa_cons pe_int (pa_cons (pe_tup pa_nil) pa_nil))) (pa_cons (pe_tup (pa_cons pe_int (pa_cons (pe_tup (pa_cons (pe_tup (pa_cons pe_int pa_nil)) pa_nil)) pa_nil))) pa_nil)))))))))) (pe_has (h_l_draw) (hr.mono (by first | decide | omega)) (by rfl) (pa_cons (pv 0) (pa_cons pe_int pa_nil))) (fun _ _ => rfl)) (pg_name (i := 5) sc_l_bent.nd rfl (by first | exact Or.inl rfl | exact Or.inr rfl)))
      (pss_cons (ps_asg (pe_lst (pa_cons (pe_op (op_catK (K := K) (by rfl)) (pe_op (op_catK (K := K) (by rfl)) (pe_slice (sl_tupK (K := K) (by rfl)) (pv 1) po_none (po_some (pv 4))) (pe_tup (pa_cons (pv 5) pa_nil))) (pe_slice (sl_tupK (K := K) (by rfl)) (pv 1) (po_some (pv 4)) po_none)) (pa_cons (pe_op (op_catK (K := K) (by rfl)) (pe_slice (sl_tupK (K := K) (by rfl)) (pv 1) po_none (po_some (pv 4))) (pe_slice (sl_tupK (K := K) (by rfl)) (pv 1) (po_some (pe_op op_add (pv 4) pe_int)) po_none)) (pa_cons (pe_op (op_catK (K := K) (by rfl)) (pe_op (op_catK (K := K) (by rfl)) (pe_slice (sl_tupK (K := K) (by rfl)) (pv 1) po_none (po_some (pv 4))) (pe_tup (pa_cons (pv 5) pa_nil))) (pe_slice (sl_tupK (K := K) (by rfl)) (pv 1) (po_some (pe_op op_add (pv 4) pe_int)) po_none)) pa_nil)))) (pg_name (i := 6) sc_l_bent.nd rfl (by first | exact Or.inl rfl | exact Or.inr rfl)))
      (pss_cons (ps_asg (pe_op op_cat (pv 6) (pe_lst (pa_cons (pe_callTy (call_listK (K := K) (by rfl)) (by rfl) B.list_ (by decide +kernel) (pa_cons (pv 1) pa_nil)) (pa_cons (pe_op (op_catK (K := K) (by rfl)) (pv 1) (pe_slice (sl_tupK (K := K) (by rfl)) (pv 1) (po_some (pe_un un_neg pe_int)) po_none)) (pa_cons (pe_revTK (K := K) (by rfl) (pv 1)) (pa_cons (pe_tup (pa_cons (pv 1) pa_nil)) (pa_cons (pe_tup pa_nil) pa_nil))))))) (pg_name (i := 6) sc_l_bent.nd rfl (by first | exact Or.inl rfl | exact Or.inr rfl)))
      (pss_one (ps_ret (pe_ix (ix_listK (K := K) (by rfl)) (pv 6) (pe_has (h_l_draw) (hr.mono (by first | decide | omega)) (by rfl) (pa_cons (pv 0) (pa_cons pe_int pa_nil))) (fun _ _ => rfl)))))))) pss_nil)
      (pss_cons (ps_if (pt_val (pe_callB (call_isiK (K := K) (by rfl)) (by rfl) B.isinstance_ (by decide +kernel) (pa_cons (pv 1) (pa_cons (pe_bltn (v := .ty "str") (u := .type "str") (by rfl) B.str_ (by decide +kernel) rfl) pa_nil)))) (pss_cons (ps_asg (pe_has (h_l_draw) (hr.mono (by first | decide | omega)) (by rfl) (pa_cons (pv 0) (pa_cons (pe_op op_add (pe_callB call_len_str (by rfl) B.len_ (by decide +kernel) (pa_cons (pv 1) pa_nil)) pe_int) pa_nil))) (pg_name (i := 4) sc_l_bent.nd rfl (by first | exact Or.inl rfl | exact Or.inr rfl)))
      (pss_cons (ps_asg (pe_ix ix_str pe_str (pe_has (h_l_draw) (hr.mono (by first | decide | omega)) (by rfl) (pa_cons (pv 0) (pa_cons pe_int pa_nil))) (fun _ _ => rfl)) (pg_name (i := 7) sc_l_bent.nd rfl (by first | exact Or.inl rfl | exact Or.inr rfl)))
      (pss_cons (ps_asg (pe_lst (pa_cons (pe_op op_add_str (pe_op op_add_str (pe_slice sl_str (pv 1) po_none (po_some (pv 4))) (pv 7)) (pe_slice sl_str (pv 1) (po_some (pv 4)) po_none)) (pa_cons (pe_op op_add_str (pe_slice sl_str (pv 1) po_none (po_some (pv 4))) (pe_slice sl_str (pv 1) (po_some (pe_op op_add (pv 4) pe_int)) po_none)) (pa_cons (pe_op op_add_str (pe_op op_add_str (pe_slice sl_str (pv 1) po_none (po_some (pv 4))) (pv 7)) (pe_slice sl_str (pv 1) (po_some (pe_op op_add (pv 4) pe_int)) po_none)) pa_nil)))) (pg_name (i := 6) sc_l_bent.nd rfl (by first | exact Or.inl rfl | exact Or.inr rfl)))
      (pss_one (ps_ret (pe_ix (ix_listK (K := K) (by rfl)) (pe_op op_cat (pv 6) (pe_lst (pa_cons pe_non (pa_cons pe_str (pa_cons pe_str (pa_cons pe_str pa_nil)))))) (pe_has (h_l_draw) (hr.mono (by first | decide | omega)) (by rfl) (pa_cons (pv 0) (pa_cons pe_int pa_nil))) (fun _ _ => rfl))))))) pss_nil)
      (pss_cons (ps_if (pt_not (pt_val (pe_callB (call_isiK (K := K) (by rfl)) (by rfl) B.isinstance_ (by decide +kernel) (pa_cons (pv 1) (pa_cons (pe_bltn (v := .ty "int") (u := .type "int") (by rfl) B.int_ (by decide +kernel) rfl) pa_nil))))) (pss_one (ps_ret (pe_ix (ix_listK (K := K) (by rfl)) (pe_lst (pa_cons pe_int (pa_cons (pe_tup pa_nil) (pa_cons pe_str (pa_cons pe_non pa_nil))))) (pe_has (h_l_draw) (hr.mono (by first | decide | omega)) (by rfl) (pa_cons (pv 0) (pa_cons pe_int pa_nil))) (fun _ _ => rfl)))) pss_nil)
      (pss_cons (ps_asg (pe_lst (pa_cons (pe_op op_addB (pv 1) pe_int) (pa_cons (pe_op op_subB (pv 1) pe_int) (pa_cons (pe_op op_subR pe_int (pv 1)) (pa_cons (pe_op op_mulB (pv 1) pe_int) (pa_cons pe_int (pa_cons (pe_cmpR op_eqB (pv 1) pe_int (nomark _)) (pa_cons (pe_callTy call_strB (by rfl) B.str_ (by decide +kernel) (pa_cons (pv 1) pa_nil)) (pa_cons pe_non (pa_cons (pe_tup (pa_cons (pv 1) pa_nil)) (pa_cons (pe_op op_addB (pv 1) (pe_op op_pow pe_int pe_int)) pa_nil))))))))))) (pg_name (i := 6) sc_l_bent.nd rfl (by first | exact Or.inl rfl | exact Or.inr rfl)))
      (pss_one (ps_ret (pe_ix (ix_listK (K := K) (by rfl)) (pv 6) (pe_has (h_l_draw) (hr.mono (by first | decide | omega)) (by rfl) (pa_cons (pv 0) (pa_cons pe_int pa_nil))) (fun _ _ => rfl)))))))))), ?_⟩
  refine ⟨_, rfl, a, s, _, n, rfl, f0, by omega, by decide, by decide, fun wy H1 w0 w1 sb1 f1 => ?_⟩
  have hd1 := Dq.sb hd sb1
  refine ⟨fun σ' H' => Same H1 H' ∧ σ' = [some (.ref a), some v, some (.int dp), some (.int wy), none, none, none, none], ?_, ?_⟩
  · refine ⟨_, rfl, ?_⟩
    dsimp only [tCons, tC, tNil]
    refine isi_tuple hd1.dp ⟨_, rfl, ?_⟩
    rcases tup_or d with hT | ⟨ds, rfl⟩
    · rw [hT]
      exact iteF ⟨Same.refl _, rfl⟩
    · refine iteT ?_
      refine ⟨_, rfl, by show 0 ≤ sizeLine; decide, fun p2 np2 => ?_⟩
      obtain ⟨H2, xH2, e2, h2⟩ := tupQ (K := K) f1.nn np2 .nil
      rw [xH2]
      have f2 := f1.same e2
      have hd2 := hd1.same e2
      cases kd with
      | zero =>
        have := hF.dep
        simp only [PyData.depth] at this
        omega
      | succ kd =>
      obtain ⟨hi1, hs1⟩ := (fn_tup (k := kd)).mp hF
      have hlen := fzAll_len ds
      refine ⟨.tuple ds, .tuple [], hd2.dp, h2.dp, hF.shaped hM3 (by omega), by decide, _, rfl, ?_⟩
      rw [eqv_nilT]
      by_cases hne : ds = []
      · rw [decide_eq_true hne]
        exact iteF ⟨e2, rfl⟩
      · rw [decide_eq_false hne]
        refine iteT ?_
        have hpos : 0 < ds.length := List.length_pos_iff.mpr hne
        refine ⟨_, rfl, _, _, rfl, rfl, _, rfl, ?_⟩
        refine ite2 (fun hdeep => ?_) (fun _ => ⟨e2, rfl⟩)
        have hdeep : 0 < dp := by
          have := of_decide_eq_true hdeep
          omega
        refine ⟨_, rfl, _, _, rfl, rfl, _, rfl, ?_⟩
        refine ite2 (fun _ => ?_) (fun _ => ⟨e2, rfl⟩)
        cases k with
        | zero => omega
        | succ k =>
        refine ⟨_, rfl, _, rfl, ?_⟩
        try dsimp only [tC, tNil]
        refine len_dp hd2.dp ?_
        refine ⟨a, s, _, n + 1, rfl, f2, by omega, by omega, by omega, fun ri H3 i0 i1 sb3 f3 => ?_⟩
        obtain ⟨i, rfl⟩ := Int.eq_ofNat_of_zero_le i0
        have hi : i < ds.length := by omega
        have hd3 := Dq.sb hd2 sb3
        have hx : ds[i]? = some ds[i] := List.getElem?_eq_getElem hi
        have hmem : ds[i] ∈ ds := List.getElem_mem hi
        refine ⟨_, rfl, _, rfl, _, rfl, ?_⟩
        refine sl_to (i := i) rfl f3.nn hd3 fun v4 H4 e4 hv4 => ?_
        have f4 := f3.same e4
        have hd4 := hd3.same e4
        refine ⟨_, rfl, _, rfl, _, rfl, ?_⟩
        refine ix_dq hd4 hx fun x5 hx5 => ?_
        have hz := fz_split hx
        refine ⟨_, rfl, _, _, rfl, rfl, a, s, x5, ds[i], n + 2, M, fz ds[i], kd, dp - 1, ?_, by omega, f4, by omega, by omega, hx5, ⟨(hi1 _ hmem).1, (hi1 _ hmem).2, Nat.le_refl _⟩, hM, hM2, by omega, by omega, fun v6 H6 d6 sb6 f6 hv6 hF6 => ?_⟩
        · show [V.ref a, x5, V.int ((dp : Int) - 1)] = _
          rw [show (dp : Int) - 1 = ((dp - 1 : Nat) : Int) by omega]
        refine ⟨by show 1 ≤ sizeLine; decide, fun p7 np7 => ?_⟩
        obtain ⟨H7, xH7, e7, h7⟩ := tupQ (K := K) f6.nn np7 (.cons hv6 .nil)
        rw [xH7]
        have f7 := f6.same e7
        have hv7 := (Dq.sb hv4 sb6).same e7
        have hd7 := (Dq.sb hd4 sb6).same e7
        refine cat_dq f7.nn hv7 h7 (by rw [List.length_take]; simp; omega) fun v8 H8 e8 hv8 => ?_
        have f8 := f7.same e8
        have hd8 := hd7.same e8
        refine ⟨_, rfl, _, rfl, _, _, rfl, rfl, _, rfl, ?_⟩
        dsimp only [tNoPart]
        refine sl_from (i := i + 1) (z := (i : Int) + 1) (by omega) f8.nn hd8 fun v9 H9 e9 hv9 => ?_
        have f9 := f8.same e9
        refine cat_dq f9.nn (hv8.same e9) hv9 (by rw [List.length_append, List.length_take, List.length_drop]; simp; omega) fun v10 H10 e10 hv10 => ?_
        refine ke v10 H10 _ ?_ ?_ hv10 ?_
        · exact ((((((sb1.trans (Sb.of e2)).trans sb3).trans (Sb.of e4)).trans sb6).trans (Sb.of (e7.trans e8))).trans (Sb.of (e9.trans e10)))
        · exact (f9.same e10).mono (by omega)
        · refine bent_tup (fun d hd' => ?_) ?_
          · rcases List.mem_append.mp hd' with h | h
            · rcases List.mem_append.mp h with h | h
              · have := hi1 d (List.mem_of_mem_take h)
                exact ⟨fok_mono (by omega) _ this.1, by omega⟩
              · rw [List.mem_singleton.mp h]
                exact ⟨hF6.ok, hF6.dep⟩
            · have := hi1 d (List.mem_of_mem_drop h)
              exact ⟨fok_mono (by omega) _ this.1, by omega⟩
          · rw [fzAll_app, fzAll_app]
            have := hF6.sz
            simp only [fzAll]
            omega
  rintro σ' H2 ⟨e2, rfl⟩
  have f2 := f1.same e2
  have hd2 := hd1.same e2
  have sb2 := sb1.trans (Sb.of (a := a) e2)
  refine ⟨_, rfl, ?_⟩
  dsimp only [tCons, tC, tNil]
  refine isi_tuple hd2.dp ⟨_, rfl, ?_⟩
  rcases tup_or d with hT | ⟨ds, rfl⟩
  · rw [hT]
    refine iteF ?_
    refine ⟨_, rfl, ?_⟩
    dsimp only [tCons, tC, tNil]
    refine isi_str hd2.dp ⟨_, rfl, ?_⟩
    by_cases hS : isS d = true
    · obtain ⟨x, rfl⟩ : ∃ x, d = PyData.str x := by
        cases d <;> first | exact ⟨_, rfl⟩ | cases hS
      rw [hS]
      refine iteT ?_
      have ev : v = .str x := by cases hd2; rfl
      subst ev
      have hx : SOk x m := ⟨by simpa only [fok] using hF.ok, by have := hF.sz; simp only [fz] at this; omega⟩
      have hx2 := hx.2
      have hsl : x.length ≤ sizeLine := by rw [sizeLine_eq]; omega
      refine ⟨_, rfl, _, rfl, x, rfl, hsl, _, _, rfl, rfl, a, s, _, n + 1, rfl, f2, by omega, by omega, by omega, fun ri H3 i0 i1 sb3 f3 => ?_⟩
      refine ⟨_, rfl, a, s, _, n + 2, rfl, f3, by omega, by decide, by decide, fun rl H4 l0 l1 sb4 f4 => ?_⟩
      obtain ⟨l, rfl⟩ := Int.eq_ofNat_of_zero_le l0
      obtain ⟨c, hc, hcs⟩ := letters_at (r := l) (by omega)
      refine ⟨_, _, c, rfl, rfl, by decide +kernel, hc, ?_⟩
      have c1 := hx.cut none (some ri)
      have c2 := hx.cut (some ri) none
      have c3 := hx.cut (some (ri + 1)) none
      have s1 := (c1.app hcs).app c2
      have s2 := c1.app c3
      have s3 := (c1.app hcs).app c3
      have l1 := c1.2
      have l2 := c2.2
      have l3 := c3.2
      have l4 := (c1.app hcs).2
      have l5 := hcs.2
      have big : m + 1 + m ≤ sizeLine := by rw [sizeLine_eq]; omega
      refine ⟨_, rfl, _, rfl, _, rfl, x, rfl, hsl, _, rfl, _, _, rfl, rfl, by omega, _, rfl, _, rfl, _, rfl, x, rfl, hsl, _, _, rfl, rfl, by omega, ?_⟩
      refine ⟨_, rfl, _, rfl, _, rfl, x, rfl, hsl, _, rfl, _, rfl, _, _, rfl, rfl, _, rfl, x, rfl, hsl, _, _, rfl, rfl, by omega, ?_⟩
      refine ⟨_, rfl, _, rfl, _, rfl, x, rfl, hsl, _, rfl, _, _, rfl, rfl, by omega, _, rfl, _, rfl, _, _, rfl, rfl, _, rfl, x, rfl, hsl, _, _, rfl, rfl, by omega, ?_⟩
      refine ⟨by show 3 ≤ sizeLine; decide, fun p5 np5 => ?_⟩
      obtain ⟨H5, xH5, e5, h5, n5, h5'⟩ := lstQ (K := K) f4.nn np5 (.cons (.str _) (.cons (.str _) (.cons (.str _) .nil)))
      rw [xH5]
      have f5 := f4.same e5
      refine ⟨_, rfl, by show 4 ≤ sizeLine; decide, fun p6 np6 => ?_⟩
      obtain ⟨H6, xH6, e6, h6, n6, h6'⟩ := lstQ (K := K) f5.nn np6 (.cons .non (.cons (.str _) (.cons (.str _) (.cons (.str _) .nil))))
      rw [xH6]
      have f6 := f5.same e6
      refine ⟨p5, p6, _, _, rfl, rfl, e6 _ _ h5, h6, by show 7 ≤ sizeLine; decide, fun p7 np7 => ?_⟩
      obtain ⟨H7, xH7, e7, h7, n7, h7'⟩ := lstQ (K := K) f6.nn np7 (dpa_append _ _ _ _ (h5'.same e6) h6')
      rw [xH7]
      have f7 := f6.same e7
      have seven : ∀ e ∈ [PyData.str (cutS x none (some ri) ++ ⟨#[c]⟩ ++ cutS x (some ri) none), .str (cutS x none (some ri) ++ cutS x (some (ri + 1)) none), .str (cutS x none (some ri) ++ ⟨#[c]⟩ ++ cutS x (some (ri + 1)) none), .none, .str "equal", .str "unequal", .str "rounds"], Fn (2 * M) (kd + 3) (2 * m + 1000) e := by
        intro e he
        simp only [List.mem_cons, List.not_mem_nil, or_false] at he
        rcases he with rfl | rfl | rfl | rfl | rfl | rfl | rfl
        · exact (s1.fn (M := 2 * M) (k := kd + 3)).mono (Nat.le_refl _) (Nat.le_refl _) (by omega)
        · exact (s2.fn (M := 2 * M) (k := kd + 3)).mono (Nat.le_refl _) (Nat.le_refl _) (by omega)
        · exact (s3.fn (M := 2 * M) (k := kd + 3)).mono (Nat.le_refl _) (Nat.le_refl _) (by omega)
        · exact ⟨by simp [fok], by simp [PyData.depth], by simp only [fz]; omega⟩
        · exact (SOk.fn (x := Str.ofString "equal") (n := 10) (M := 2 * M) (k := kd + 3) ⟨by decide +kernel, by decide +kernel⟩).mono (Nat.le_refl _) (Nat.le_refl _) (by omega)
        · exact (SOk.fn (x := Str.ofString "unequal") (n := 10) (M := 2 * M) (k := kd + 3) ⟨by decide +kernel, by decide +kernel⟩).mono (Nat.le_refl _) (Nat.le_refl _) (by omega)
        · exact (SOk.fn (x := Str.ofString "rounds") (n := 10) (M := 2 * M) (k := kd + 3) ⟨by decide +kernel, by decide +kernel⟩).mono (Nat.le_refl _) (Nat.le_refl _) (by omega)
      refine ⟨_, rfl, a, s, _, n + 3, rfl, f7, by omega, by decide, by decide, fun r8 H8 r80 r81 sb8 f8 => ?_⟩
      obtain ⟨q, rfl⟩ := Int.eq_ofNat_of_zero_le r80
      have h8 := sb8 _ _ n7 h7
      have h8' := DqAll.sb h7' sb8
      obtain ⟨y, hy, dy⟩ := dpa_at _ _ q _ h8' (List.getElem?_eq_getElem (show q < _ by simp only [List.length_append, List.length_cons, List.length_nil]; omega))
      refine ⟨p7, _, _, y, rfl, rfl, SqL.of h8, atI_nat hy, ?_⟩
      refine ke y H8 _ ?_ (f8.mono (by omega)) dy (seven _ (List.getElem_mem _))
      exact (((sb2.trans sb3).trans sb4).trans (Sb.of (e5.trans (e6.trans e7)))).trans sb8
    · have hS : isS d = false := by
        cases h : isS d with
        | true => exact absurd h hS
        | false => rfl
      rw [hS]
      refine iteF ?_
      refine ⟨_, rfl, ?_⟩
      dsimp only [tCons, tC, tNil]
      refine isi_int hd2.dp ⟨_, rfl, ?_⟩
      by_cases hI : isI d = true
      · rw [hI]
        refine iteF ?_
        obtain ⟨i, hN, hiM⟩ : ∃ i, NumV v i ∧ i.natAbs ≤ M := by
          cases d with
          | int i =>
            have ev := dp_int hd2
            exact ⟨i, .inl ev, by have := hF.ok; simpa only [fok, decide_eq_true_eq] using this⟩
          | bool b =>
            refine ⟨if b = true then 1 else 0, .inr ⟨b, by cases hd2; rfl, rfl⟩, ?_⟩
            cases b <;> simp <;> omega
          | none => cases hI
          | str x => cases hI
          | list x => cases hI
          | tuple x => cases hI
          | dict x => cases hd2
        refine ⟨_, rfl, i, _, hN, rfl, _, rfl, i, _, hN, rfl, _, rfl, i, _, rfl, hN, _, rfl, i, _, hN, rfl, .inr ⟨by decide, by decide⟩, _, rfl, i, _, hN, rfl, _, rfl, v, i, rfl, hN, by omega, fun t ht htl => ?_⟩
        refine ⟨_, rfl, by show 1 ≤ sizeLine; decide, fun p3 np3 => ?_⟩
        obtain ⟨H3, xH3, e3, h3⟩ := tupQ (K := K) f2.nn np3 (.cons hd2 .nil)
        rw [xH3]
        have f3 := f2.same e3
        refine ⟨_, rfl, _, _, rfl, rfl, ⟨by decide, by decide, by decide⟩, i, _, hN, rfl, ?_⟩
        refine ⟨by show 10 ≤ sizeLine; decide, fun p4 np4 => ?_⟩
        obtain ⟨H4, xH4, e4, h4, n4, h4'⟩ := lstQ (K := K) f3.nn np4 (.cons (.int (i + 1)) (.cons (.int (i - 1)) (.cons (.int (0 - i)) (.cons (.int (i * 2)) (.cons (.int 0) (.cons (.bl (decide (i = 1))) (.cons (.str t) (.cons .non (.cons h3 (.cons (.int (i + 10 ^ Int.toNat 30)) .nil))))))))))
        rw [xH4]
        have f4 := f3.same e4
        have ten := bent_ten (kd := kd) (m := m) (b := decide (i = 1)) hiM hF ⟨ht, htl⟩ hM
        refine ⟨_, rfl, _, rfl, a, s, _, n + 1, rfl, f4, by omega, by decide, by decide, fun r8 H8 r80 r81 sb8 f8 => ?_⟩
        obtain ⟨q, rfl⟩ := Int.eq_ofNat_of_zero_le r80
        have h8 := sb8 _ _ n4 h4
        have h8' := DqAll.sb h4' sb8
        obtain ⟨y, hy, dy⟩ := dpa_at _ _ q _ h8' (List.getElem?_eq_getElem (show q < _ by simp only [List.length_cons, List.length_nil]; omega))
        refine ⟨p4, _, _, y, rfl, rfl, SqL.of h8, atI_nat hy, ?_⟩
        refine ke y H8 _ ?_ (f8.mono (by omega)) dy (ten _ (List.getElem_mem _))
        exact (sb2.trans (Sb.of (e3.trans e4))).trans sb8
      · have hI : isI d = false := by
          cases h : isI d with
          | true => exact absurd h hI
          | false => rfl
        rw [hI]
        refine iteT ?_
        refine ⟨by show 0 ≤ sizeLine; decide, fun p3 np3 => ?_⟩
        obtain ⟨H3, xH3, e3, h3⟩ := tupQ (K := K) f2.nn np3 .nil
        rw [xH3]
        have f3 := f2.same e3
        refine ⟨by show 4 ≤ sizeLine; decide, fun p4 np4 => ?_⟩
        obtain ⟨H4, xH4, e4, h4, n4, h4'⟩ := lstQ (K := K) f3.nn np4 (.cons (.int 0) (.cons h3 (.cons (.str _) (.cons .non .nil))))
        rw [xH4]
        have f4 := f3.same e4
        have four : ∀ e ∈ [PyData.int 0, .tuple [], .str "rounds", .none], Fn (2 * M) (kd + 3) (2 * m + 1000) e := by
          intro e he
          have : e ∈ oddL := by
            simp only [List.mem_cons, List.not_mem_nil, or_false] at he
            simp only [oddL, List.mem_cons, List.not_mem_nil, or_false]
            rcases he with rfl | rfl | rfl | rfl <;> simp
          exact (odd_fine e this).mono (by omega) (by omega) (by omega)
        refine ⟨_, rfl, a, s, _, n + 1, rfl, f4, by omega, by decide, by decide, fun r8 H8 r80 r81 sb8 f8 => ?_⟩
        obtain ⟨q, rfl⟩ := Int.eq_ofNat_of_zero_le r80
        have h8 := sb8 _ _ n4 h4
        have h8' := DqAll.sb h4' sb8
        obtain ⟨y, hy, dy⟩ := dpa_at _ _ q _ h8' (List.getElem?_eq_getElem (show q < _ by simp only [List.length_cons, List.length_nil]; omega))
        refine ⟨p4, _, _, y, rfl, rfl, SqL.of h8, atI_nat hy, ?_⟩
        refine ke y H8 _ ?_ (f8.mono (by omega)) dy (four _ (List.getElem_mem _))
        exact (sb2.trans (Sb.of (e3.trans e4))).trans sb8
  · refine iteT ?_
    cases kd with
    | zero =>
      have := hF.dep
      simp only [PyData.depth] at this
      omega
    | succ kd =>
    obtain ⟨hi1, hs1⟩ := (fn_tup (k := kd)).mp hF
    have hlen := fzAll_len ds
    refine ⟨_, rfl, _, rfl, ?_⟩
    try dsimp only [tC, tNil]
    refine len_dp hd2.dp ?_
    refine ⟨_, _, rfl, rfl, a, s, _, n + 1, rfl, f2, by omega, by omega, by omega, fun ri H3 i0 i1 sb3 f3 => ?_⟩
    obtain ⟨i, rfl⟩ := Int.eq_ofNat_of_zero_le i0
    have hi : i ≤ ds.length := by omega
    have hd3 := Dq.sb hd2 sb3
    have sb03 := sb2.trans sb3
    -- the odd thing
    refine ⟨_, rfl, by show 0 ≤ sizeLine; decide, fun p4 np4 => ?_⟩
    obtain ⟨H4, xH4, e4, h4⟩ := tupQ (K := K) f3.nn np4 .nil
    rw [xH4]
    have f4 := f3.same e4
    refine ⟨by show 0 ≤ sizeLine; decide, fun p5 np5 => ?_⟩
    obtain ⟨H5, xH5, e5, h5⟩ := tupQ (K := K) f4.nn np5 .nil
    rw [xH5]
    have f5 := f4.same e5
    refine ⟨by show 2 ≤ sizeLine; decide, fun p6 np6 => ?_⟩
    obtain ⟨H6, xH6, e6, h6⟩ := tupQ (K := K) f5.nn np6 (.cons (.int 0) (.cons h5 .nil))
    rw [xH6]
    have f6 := f5.same e6
    refine ⟨by show 1 ≤ sizeLine; decide, fun p7 np7 => ?_⟩
    obtain ⟨H7, xH7, e7, h7⟩ := tupQ (K := K) f6.nn np7 (.cons (.int 1) .nil)
    rw [xH7]
    have f7 := f6.same e7
    refine ⟨by show 1 ≤ sizeLine; decide, fun p8 np8 => ?_⟩
    obtain ⟨H8, xH8, e8, h8⟩ := tupQ (K := K) f7.nn np8 (.cons h7 .nil)
    rw [xH8]
    have f8 := f7.same e8
    refine ⟨by show 2 ≤ sizeLine; decide, fun p9 np9 => ?_⟩
    obtain ⟨H9, xH9, e9, h9⟩ := tupQ (K := K) f8.nn np9 (.cons (.int 1) (.cons h8 .nil))
    rw [xH9]
    have f9 := f8.same e9
    have e69 := e7.trans (e8.trans e9)
    refine ⟨by show 9 ≤ sizeLine; decide, fun p10 np10 => ?_⟩
    obtain ⟨H10, xH10, e10, h10, n10, h10'⟩ := lstQ (K := K) f9.nn np10 (.cons (.int 0) (.cons (.int 1) (.cons (.int (-1)) (.cons (h4.same (e5.trans (e6.trans e69))) (.cons .non (.cons (.bl true) (.cons (.str _) (.cons (h6.same e69) (.cons h9 .nil)))))))))
    rw [xH10]
    have f10 := f9.same e10
    have h10' : DqAll K a H10 _ oddL := h10'
    refine ⟨_, rfl, a, s, _, n + 2, rfl, f10, by omega, by decide, by decide, fun ro H11 o0 o1 sb11 f11 => ?_⟩
    obtain ⟨o, rfl⟩ := Int.eq_ofNat_of_zero_le o0
    have h11 := sb11 _ _ n10 h10
    obtain ⟨dm, hdm⟩ : ∃ dm, oddL[o]? = some dm := ⟨_, List.getElem?_eq_getElem (by simp only [oddL, List.length_cons, List.length_nil]; omega)⟩
    obtain ⟨xo, hxo, dxo⟩ := dpa_at _ _ o dm (DqAll.sb h10' sb11) hdm
    have hFo := odd_fine _ (List.mem_of_getElem? hdm)
    refine ⟨p10, _, _, xo, rfl, rfl, SqL.of h11, atI_nat hxo, ?_⟩
    have dxo : Dq K a H11 xo dm := dxo
    have e410 := (e4.trans (e5.trans (e6.trans e69))).trans e10
    have hd11 := Dq.sb (hd3.same e410) sb11
    have sb011 := (sb03.trans (Sb.of e410)).trans sb11
    -- the first three
    refine ⟨_, rfl, _, rfl, _, rfl, ?_⟩
    refine sl_to (i := i) rfl f11.nn hd11 fun v12 H12 e12 hv12 => ?_
    have f12 := f11.same e12
    refine ⟨_, rfl, by show 1 ≤ sizeLine; decide, fun p13 np13 => ?_⟩
    obtain ⟨H13, xH13, e13, h13⟩ := tupQ (K := K) f12.nn np13 (.cons (dxo.same e12) .nil)
    rw [xH13]
    have f13 := f12.same e13
    refine cat_dq f13.nn (hv12.same e13) h13 (by rw [List.length_take]; simp; omega) fun v14 H14 e14 hv14 => ?_
    have f14 := f13.same e14
    have e1114 := e12.trans (e13.trans e14)
    have hd14 := hd11.same e1114
    refine ⟨_, rfl, _, rfl, _, rfl, ?_⟩
    dsimp only [tNoPart]
    refine sl_from (i := i) rfl f14.nn hd14 fun v15 H15 e15 hv15 => ?_
    have f15 := f14.same e15
    refine cat_dq f15.nn (hv14.same e15) hv15 (by rw [List.length_append, List.length_take, List.length_drop]; simp; omega) fun v16 H16 e16 hv16 => ?_
    have f16 := f15.same e16
    have hd16 := hd14.same (e15.trans e16)
    refine ⟨_, rfl, _, rfl, _, rfl, ?_⟩
    refine sl_to (i := i) rfl f16.nn hd16 fun v17 H17 e17 hv17 => ?_
    have f17 := f16.same e17
    refine ⟨_, rfl, _, rfl, _, _, rfl, rfl, _, rfl, ?_⟩
    dsimp only [tNoPart]
    refine sl_from (i := i + 1) (z := (i : Int) + 1) (by omega) f17.nn (hd16.same e17) fun v18 H18 e18 hv18 => ?_
    have f18 := f17.same e18
    refine cat_dq f18.nn (hv17.same e18) hv18 (by rw [List.length_take, List.length_drop]; omega) fun v19 H19 e19 hv19 => ?_
    have f19 := f18.same e19
    have e1619 := e17.trans (e18.trans e19)
    have hd19 := hd16.same e1619
    have dxo19 := dxo.same ((e1114.trans (e15.trans e16)).trans e1619)
    refine ⟨_, rfl, _, rfl, _, rfl, ?_⟩
    refine sl_to (i := i) rfl f19.nn hd19 fun v20 H20 e20 hv20 => ?_
    have f20 := f19.same e20
    refine ⟨_, rfl, by show 1 ≤ sizeLine; decide, fun p21 np21 => ?_⟩
    obtain ⟨H21, xH21, e21, h21⟩ := tupQ (K := K) f20.nn np21 (.cons (dxo19.same e20) .nil)
    rw [xH21]
    have f21 := f20.same e21
    refine cat_dq f21.nn (hv20.same e21) h21 (by rw [List.length_take]; simp; omega) fun v22 H22 e22 hv22 => ?_
    have f22 := f21.same e22
    have e1922 := e20.trans (e21.trans e22)
    refine ⟨_, rfl, _, rfl, _, _, rfl, rfl, _, rfl, ?_⟩
    dsimp only [tNoPart]
    refine sl_from (i := i + 1) (z := (i : Int) + 1) (by omega) f22.nn (hd19.same e1922) fun v23 H23 e23 hv23 => ?_
    have f23 := f22.same e23
    refine cat_dq f23.nn (hv22.same e23) hv23 (by rw [List.length_append, List.length_take, List.length_drop]; simp; omega) fun v24 H24 e24 hv24 => ?_
    have f24 := f23.same e24
    have e1924 := e1922.trans (e23.trans e24)
    have e1624 := e1619.trans e1924
    refine ⟨by show 3 ≤ sizeLine; decide, fun p25 np25 => ?_⟩
    obtain ⟨H25, xH25, e25, h25, n25, h25'⟩ := lstQ (K := K) f24.nn np25 (.cons (hv16.same e1624) (.cons (hv19.same e1924) (.cons hv24 .nil)))
    rw [xH25]
    have f25 := f24.same e25
    have hd25 := hd16.same (e1624.trans e25)
    -- the other five
    refine ⟨_, rfl, _, rfl, ?_⟩
    try dsimp only [tC, tNil]
    refine listT_dq f25.nn hd25 fun l26 H26 nl26 e26 h26 => ?_
    have f26 := f25.same e26
    have hd26 := hd25.same e26
    refine ⟨_, rfl, _, rfl, _, rfl, _, rfl, ?_⟩
    dsimp only [tNoPart]
    refine sl_dq f26.nn hd26 (i := ds.length - 1) (j := ds.length) ?_ rfl fun v27 H27 e27 hv27 => ?_
    · show (if (-1 : Int) < 0 then ((-1 : Int) + ((ds.length : Nat) : Int)).toNat else min (-1 : Int).toNat ds.length) = ds.length - 1
      rw [if_pos (by decide)]
      omega
    have f27 := f26.same e27
    refine cat_dq f27.nn (hd26.same e27) hv27 (by rw [List.length_take, List.length_drop]; omega) fun v28 H28 e28 hv28 => ?_
    have f28 := f27.same e28
    have hd28 := hd26.same (e27.trans e28)
    obtain ⟨b29, xs29, rfl, hs29, ha29⟩ := dp_tup hd28
    refine ⟨_, rfl, b29, xs29, rfl, sqt_same hid_le hs29, fun p29 np29 => ?_⟩
    obtain ⟨H29, xH29, e29, h29⟩ := tupQ (K := K) f28.nn np29 (dpa_reverse _ _ ha29)
    rw [xH29]
    have f29 := f28.same e29
    refine ⟨_, rfl, by show 1 ≤ sizeLine; decide, fun p30 np30 => ?_⟩
    obtain ⟨H30, xH30, e30, h30⟩ := tupQ (K := K) f29.nn np30 (.cons (hd28.same e29) .nil)
    rw [xH30]
    have f30 := f29.same e30
    refine ⟨by show 0 ≤ sizeLine; decide, fun p31 np31 => ?_⟩
    obtain ⟨H31, xH31, e31, h31⟩ := tupQ (K := K) f30.nn np31 .nil
    rw [xH31]
    have f31 := f30.same e31
    have e3031 := e30.trans e31
    have e2831 := e29.trans e3031
    refine ⟨by show 5 ≤ sizeLine; decide, fun p32 np32 => ?_⟩
    obtain ⟨H32, xH32, e32, h32, n32, h32'⟩ := lstQ (K := K) f31.nn np32 (.cons (h26.same ((e27.trans e28).trans e2831)) (.cons (hv28.same e2831) (.cons (h29.same e3031) (.cons (h30.same e31) (.cons h31 .nil)))))
    rw [xH32]
    have f32 := f31.same e32
    have e2532 := (e26.trans (e27.trans e28)).trans (e2831.trans e32)
    refine ⟨p25, p32, _, _, rfl, rfl, e2532 _ _ h25, h32, by show 8 ≤ sizeLine; decide, fun p33 np33 => ?_⟩
    obtain ⟨H33, xH33, e33, h33, n33, h33'⟩ := lstQ (K := K) f32.nn np33 (dpa_append _ _ _ _ (h25'.same e2532) h32')
    rw [xH33]
    have f33 := f32.same e33
    have eight := bent_eight (i := i) hi1 hs1 hFo hM
    refine ⟨_, rfl, _, rfl, a, s, _, n + 3, rfl, f33, by omega, by decide, by decide, fun r34 H34 r0 r1 sb34 f34 => ?_⟩
    obtain ⟨q, rfl⟩ := Int.eq_ofNat_of_zero_le r0
    have h34 := sb34 _ _ n33 h33
    have h34' := DqAll.sb h33' sb34
    obtain ⟨y, hy, dy⟩ := dpa_at _ _ q _ h34' (List.getElem?_eq_getElem (show q < _ by simp only [List.length_append, List.length_cons, List.length_nil]; omega))
    refine ⟨p33, _, _, y, rfl, rfl, SqL.of h34, atI_nat hy, ?_⟩
    refine ke y H34 _ ?_ (f34.mono (by omega)) dy (eight _ (List.getElem_mem _))
    exact (sb011.trans (Sb.of ((e1114.trans (e15.trans e16)).trans ((e1624.trans e25).trans (e2532.trans e33))))).trans sb34
theorem bent_at (D : Df K mg "_law_bent" s_l_bent) (B : Bn mg) (h_l_draw : Has P w K mg base "_law_draw" 1 p_l_draw spDrawX) : ∀ k : Nat, Has P w K mg base "_law_bent" (k + 2) p_l_bent (spBX K k)
  | 0 => has_of (k := 1) D sc_l_bent bn_l_bent (fun _ _ _ _ h => h.elim) (fun _ _ _ _ _ _ _ _ _ _ h => h.elim)
  | k + 1 => bent_step (by omega) D B h_l_draw (bent_at D B h_l_draw k)
theorem ok_l_bent (D : Df K mg "_law_bent" s_l_bent) (B : Bn mg) (h_l_draw : Has P w K mg base "_law_draw" 1 p_l_draw spDrawX) : Has P w K mg base "_law_bent" 8 p_l_bent (spBentX K 5) := bent_at D B h_l_draw 6

end K55

set_option Elab.async false
set_option linter.all false
set_option maxRecDepth 100000
set_option maxHeartbeats 1000000
namespace K55
open PySem PySem.Spec PyProof.Rows L2 Gd
variable {P : Program} {w : World} {K : PySem.W.Frag} {mg : Str → Option Value} {base : Heap}
def spVast (K : PySem.W.Frag) (k : Nat) : Sp := fun vs H Q _ => ∃ (v : V) (d : PyData) (M m : Nat), vs = [v] ∧ Dp K H v d ∧ Fn M k m d ∧ M < 2 ^ 1900 ∧ m ≤ 8000 ∧ k ≤ 40 ∧ ∀ b H', Same H H' → Q (.bl b) H'
def spV (K : PySem.W.Frag) : Nat → Sp
  | 0 => fun _ _ _ _ => False
  | k + 1 => spVast K k
theorem vast_step {j k : Nat} (D : Df K mg "_law_is_vast" s_l_is_vast) (B : Bn mg) (h_l_is_vast : Has P w K mg base "_law_is_vast" j p_l_is_vast (spV K k)) :
    Has P w K mg base "_law_is_vast" (j + 1) p_l_is_vast (spV K (k + 1)) := by
  refine has_of (k := j) D sc_l_is_vast bn_l_is_vast ?_ ?_
  · rintro vs H Q E ⟨v, d, M, m, rfl, _⟩
    rfl
  rintro f cdv A outer s0 H vs Q E hr ⟨v, d, M, m, rfl, hd, hF, hM, hm, hk, ke⟩
  refine ⟨_, (pss_cons (ps_if (pt_not (pt_val (pe_callB (call_isiK (K := K) (by rfl)) (by rfl) B.isinstance_ (by decide +kernel) (pa_cons (pv 0) (pa_cons (pe_bltn (v := .ty "tuple") (u := .type "tuple") (by rfl) B.tuple_ (by decide +kernel) rfl) pa_nil))))) (pss_one (ps_ret pe_bl)) pss_nil)
      (Evl.pss_cut (ps_if (PW.pt (pw_and (pt_cmpR op_eq (pe_callB (call_lenK (K := K) (by rfl)) (by rfl) B.len_ (by decide +kernel) (pa_cons (pv 0) pa_nil)) pe_int (nomark _)) (pw_and (pt_val (pe_callB (call_isiK (K := K) (by rfl)) (by rfl) B.isinstance_ (by decide +kernel) (pa_cons (pe_ix (ix_tupK (K := K) (by rfl)) (pv 0) pe_int (fun _ _ => rfl)) (pa_cons (pe_bltn (v := .ty "int") (u := .type "int") (by rfl) B.int_ (by decide +kernel) rfl) pa_nil)))) (pw_and (pt_cmpR op_gtN (pe_ix (ix_tupK (K := K) (by rfl)) (pv 0) pe_int (fun _ _ => rfl)) pe_int (nomark _)) (pw_and1 (pt_cmpR (op_eqK (K := K) (by rfl) hr.units) (pe_ix (ix_tupK (K := K) (by rfl)) (pv 0) pe_int (fun _ _ => rfl)) (pe_tup pa_nil) (nomark _))))))) (pss_one (ps_ret pe_bl)) pss_nil)
      (pss_one (ps_ret (pe_callB (call_anyK (K := K) (by rfl) (by rfl)) (by rfl) B.any_ (by decide +kernel) (pa_cons (pe_lc (own := [("_law_one", 1)]) rfl sc_l_is_vast.nd (pi_tupK (K := K) (by rfl) (pv 0)) (blkOk_by (own := [("_law_one", 1)]) (N := n_l_is_vast) (sc := defScope s_l_is_vast) (by decide +kernel)) (fun _ _ _ _ _ => (pg_name (i := 1) sc_l_is_vast.nd rfl (by first | exact Or.inl rfl | exact Or.inr rfl))) (fun _ _ _ _ _ => pts_nil) (fun _ _ _ _ _ => (pe_has (h_l_is_vast) (hr.mono (by first | decide | omega)) (by rfl) (pa_cons (pv 1) pa_nil)))) pa_nil)))))), ?_⟩
  refine ⟨_, rfl, ?_⟩
  dsimp only [tCons, tC, tNil]
  refine isi_tuple hd ⟨_, rfl, ?_⟩
  rcases tup_or d with hT | ⟨ds, rfl⟩
  · rw [hT]
    exact iteT (ke _ _ (Same.refl H))
  refine iteF ?_
  cases k with
  | zero =>
    have := hF.dep
    simp only [PyData.depth] at this
    omega
  | succ k =>
  obtain ⟨hi1, hs1⟩ := (fn_tup (k := k)).mp hF
  have hlen := fzAll_len ds
  obtain ⟨a, xs, rfl, hs, ha⟩ := dp_tup hd
  have hl := dpa_len _ _ ha
  refine ⟨fun σ' H' => Same H H' ∧ σ' = [some (.ref a), none], ?_, ?_⟩
  · refine ⟨_, rfl, a, _, rfl, .inr hs, rfl, _, rfl, ?_⟩
    refine ite2 (fun he => ?_) (fun _ => ⟨Same.refl H, rfl⟩)
    have he : ds.length = 2 := by
      have := V.int.inj (of_decide_eq_true he)
      omega
    obtain ⟨d0, d1, rfl⟩ := two_of he
    obtain ⟨x0, t0, rfl, q0, ha⟩ := dpa_cons ha
    obtain ⟨x1, t1, rfl, q1, ha⟩ := dpa_cons ha
    have et := dpa_nil ha
    subst et
    refine ⟨_, rfl, a, _, 0, _, rfl, rfl, hs, rfl, ?_⟩
    dsimp only [tCons, tC, tNil]
    refine isi_int q0 ⟨_, rfl, ?_⟩
    have go : ∀ (D' : Ends), D'.rt = Q → D'.nx [some (.ref a), none] = D'.nx [some (.ref a), none] → True := fun _ _ _ => trivial
    have fin : (b : Bool) → ∀ (G1 G2 : Prop), G1 → G2 → if b = true then G1 else G2 := fun b G1 G2 h1 h2 => by
      cases b with
      | true => exact iteT h1
      | false => exact iteF h2
    have last : ∀ (R : Bool → Hp → Prop), (∀ b H2, Same H H2 → R b H2) → ∀ p, H p = none → rEqD K x1 (.ref p) (upd H p (.tup [])) fun x H1 => ∃ c, x = V.bl c ∧ R c H1 := by
      intro R hR p np
      have e1 := Same.new (o := .tup []) np
      have hF1 : Fn M (k + 1) m d1 := ⟨(hi1 d1 (by simp)).1, by have := (hi1 d1 (by simp)).2; omega, by
        have := fzAll_mem (show d1 ∈ [d0, d1] by simp)
        omega⟩
      exact ⟨d1, .tuple [], Dp.same e1 _ _ q1, .tup (SqT.of upd_same) .nil, hF1.shaped hM (by omega), by decide, _, rfl, hR _ _ e1⟩
    cases d0 with
    | int i =>
      cases q0
      refine iteT ?_
      refine ⟨_, rfl, a, _, 0, _, rfl, rfl, hs, rfl, .inl ⟨_, _, rfl, rfl, _, rfl, ?_⟩⟩
      refine ite2 (fun _ => ?_) (fun _ => ⟨Same.refl H, rfl⟩)
      refine ⟨_, rfl, a, _, 1, _, rfl, rfl, hs, rfl, by show 0 ≤ sizeLine; decide, fun p np => ?_⟩
      refine last _ (fun b H2 e2 => ?_) p np
      exact fin b _ _ (ke _ _ e2) ⟨e2, rfl⟩
    | bool b =>
      cases q0
      refine iteT ?_
      refine ⟨_, rfl, a, _, 0, _, rfl, rfl, hs, rfl, .inr ⟨_, _, rfl, rfl, _, rfl, ?_⟩⟩
      refine ite2 (fun _ => ?_) (fun _ => ⟨Same.refl H, rfl⟩)
      refine ⟨_, rfl, a, _, 1, _, rfl, rfl, hs, rfl, by show 0 ≤ sizeLine; decide, fun p np => ?_⟩
      refine last _ (fun b H2 e2 => ?_) p np
      exact fin b _ _ (ke _ _ e2) ⟨e2, rfl⟩
    | none => exact iteF ⟨Same.refl H, rfl⟩
    | str x => exact iteF ⟨Same.refl H, rfl⟩
    | list ds => exact iteF ⟨Same.refl H, rfl⟩
    | tuple ds => exact iteF ⟨Same.refl H, rfl⟩
    | dict _ => cases q0
  · rintro σ' H1 ⟨e1, rfl⟩
    have hs1' := sqt_same e1 hs
    refine ⟨_, rfl, a, rfl, ⟨_, hs1'⟩, fun D1 hD1 => ?_⟩
    refine lctB (K := K) (j := 1) hD1 hs1' (by omega) (fun _ => rfl) ?_ ?_
    · intro i x H2 Q2 hx e2 k2
      obtain ⟨d, hd1, hd2⟩ := dpa_get _ _ i x ha hx
      have hmem := List.mem_of_getElem? hd1
      have := fzAll_mem hmem
      exact ⟨_, rfl, x, d, M, m, rfl, Dp.same (e1.trans e2) _ _ hd2, ⟨(hi1 d hmem).1, (hi1 d hmem).2, by omega⟩, hM, hm, by omega, fun b H3 e3 => k2 b H3 e3⟩
    · intro H2 bs e2 h2
      exact ⟨D1, bs, rfl, SqL.of h2, ke _ _ (e1.trans e2)⟩
theorem vast_at (D : Df K mg "_law_is_vast" s_l_is_vast) (B : Bn mg) : ∀ k : Nat, Has P w K mg base "_law_is_vast" (k + 1) p_l_is_vast (spV K k)
  | 0 => has_of (k := 0) D sc_l_is_vast bn_l_is_vast (fun _ _ _ _ h => h.elim) (fun _ _ _ _ _ _ _ _ _ _ h => h.elim)
  | k + 1 => vast_step D B (vast_at D B k)
theorem ok_l_is_vast (D : Df K mg "_law_is_vast" s_l_is_vast) (B : Bn mg) : Has P w K mg base "_law_is_vast" 22 p_l_is_vast (spVast K 20) := vast_at D B 21

theorem ints_fz (M : Nat) : ∀ r : List Int, (∀ x ∈ r, x.natAbs ≤ M) → fokAll M (r.map PyData.int) = true ∧ PyData.depthAll (r.map PyData.int) = 0 ∧ fzAll (r.map PyData.int) = r.length
  | [], _ => ⟨by simp [fokAll], by simp [PyData.depthAll], by simp [fzAll]⟩
  | x :: r, h => by
    obtain ⟨h1, h2, h3⟩ := ints_fz M r (fun y hy => h y (List.mem_cons_of_mem _ hy))
    have hx := h x (List.mem_cons_self ..)
    refine ⟨?_, ?_, ?_⟩
    · simp only [List.map_cons, fokAll, fok, h1, Bool.and_true, decide_eq_true_eq]
      exact hx
    · simp only [List.map_cons, PyData.depthAll, PyData.depth, h2]
      rfl
    · simp only [List.map_cons, fzAll, fz, h3, List.length_cons]
      omega
theorem row_fn {M : Nat} {r : List Int} (h : ∀ x ∈ r, x.natAbs ≤ M) : fok M (rowD r) = true ∧ (rowD r).depth ≤ 1 ∧ fz (rowD r) = 1 + r.length := by
  obtain ⟨h1, h2, h3⟩ := ints_fz M r h
  refine ⟨?_, ?_, ?_⟩
  · simp only [rowD, fok]
    exact h1
  · simp only [rowD, PyData.depth, h2]
    omega
  · simp only [rowD, fz, h3]
theorem rows_fn {M wd : Nat} : ∀ rs : List (List Int), (∀ r ∈ rs, r.length = wd ∧ ∀ x ∈ r, x.natAbs ≤ M) → (∀ d ∈ rs.map rowD, fok M d = true ∧ d.depth ≤ 1) ∧ fzAll (rs.map rowD) = rs.length * (1 + wd)
  | [], _ => ⟨fun d hd => by simp at hd, by simp [fzAll]⟩
  | r :: rs, h => by
    obtain ⟨h1, h2⟩ := rows_fn rs (fun y hy => h y (List.mem_cons_of_mem _ hy))
    have hr := h r (List.mem_cons_self ..)
    obtain ⟨k1, k2, k3⟩ := row_fn hr.2
    refine ⟨fun d hd => ?_, ?_⟩
    · rcases List.mem_cons.mp hd with rfl | hd
      · exact ⟨k1, k2⟩
      · exact h1 d hd
    · simp only [List.map_cons, fzAll, k3, h2, hr.1, List.length_cons, Nat.add_mul]
      omega
theorem tab_fn {M wd m : Nat} {z : Int} {rs : List (List Int)} (hz : z.natAbs ≤ M) (h : ∀ r ∈ rs, r.length = wd ∧ ∀ x ∈ r, x.natAbs ≤ M) (hm : 3 + rs.length * (1 + wd) ≤ m) : Fn M 3 m (tabD z rs) := by
  obtain ⟨h1, h2⟩ := rows_fn rs h
  unfold tabD rowsD
  refine (fn_tup (k := 2)).mpr ⟨fun d hd => ?_, ?_⟩
  · simp only [List.mem_cons, List.not_mem_nil, or_false] at hd
    rcases hd with rfl | rfl
    · exact ⟨by simp only [fok, decide_eq_true_eq]; exact hz, by simp [PyData.depth]⟩
    · have := (fn_tup (M := M) (k := 1) (n := 1 + fzAll (rs.map rowD)) (ds := rs.map rowD)).mpr ⟨h1, Nat.le_refl _⟩
      exact ⟨this.ok, this.dep⟩
  · simp only [fzAll, fz, h2]
    omega

/-! ### the mathematics of rounds made -/
theorem diagM_len (m wd : Nat) (ds : List Int) : (diagM m wd ds).length = m := by
  unfold diagM
  rw [List.length_map, List.length_range]
theorem diagM_row {m wd : Nat} {ds : List Int} {k : Nat} (h : k < m) : (diagM m wd ds).getD k [] = (List.range wd).map fun j => if j = k then ds.getD k 0 else 0 := by
  unfold diagM
  rw [List.getD_eq_getElem?_getD, List.getElem?_map, List.getElem?_range h]
  rfl
theorem diag_wide {m wd : Nat} {ds : List Int} : ∀ r ∈ diagM m wd ds, r.length = wd := by
  intro r hr
  unfold diagM at hr
  obtain ⟨k, _, rfl⟩ := List.mem_map.mp hr
  rw [List.length_map, List.length_range]
theorem diag_at {m wd : Nat} {ds : List Int} {k j : Nat} (hk : k < m) (hj : j < wd) : ((diagM m wd ds).getD k []).getD j 0 = if j = k then ds.getD k 0 else 0 := by
  rw [diagM_row hk, List.getD_eq_getElem?_getD, List.getElem?_map, List.getElem?_range hj]
  rfl
theorem diag_bare {m wd : Nat} {ds : List Int} {k : Nat} (hk : k < m) : bareAt k ((diagM m wd ds).getD k []) ((diagM m wd ds).getD k []).length = true := by
  unfold bareAt
  rw [List.all_eq_true]
  intro j hj
  have hj := List.mem_range.mp hj
  have hl : ((diagM m wd ds).getD k []).length = wd := by rw [diagM_row hk, List.length_map, List.length_range]
  rw [hl] at hj
  rw [diag_at hk hj]
  by_cases h : j = k
  · simp [h]
  · simp [h]
theorem diag_rounds {m wd : Nat} {ds : List Int} (h1 : ∀ k, k < min m wd → 0 ≤ ds.getD k 0) (h2 : ∀ k, k + 1 < min m wd → divM (ds.getD k 0) (ds.getD (k + 1) 0) = true) : roundsM wd (diagM m wd ds) = true := by
  have dgk : ∀ k, k < min m wd → dg (diagM m wd ds) k = ds.getD k 0 := fun k hk => by
    unfold dg
    rw [diag_at (by omega) (by omega), if_pos rfl]
  refine roundsM_iff.mpr ⟨fun k hk => ?_, fun k hk => ?_, fun k hk => ?_⟩
  · rw [diagM_len] at hk
    exact diag_bare hk
  · rw [diagM_len] at hk
    rw [dgk k (by omega)]
    exact h1 k (by omega)
  · rw [diagM_len] at hk
    rw [dgk k (by omega), dgk (k + 1) (by omega)]
    exact h2 k (by omega)
theorem diag_downs {m wd : Nat} {ds : List Int} (h : ds.length = min m wd) : downsM wd (diagM m wd ds) = ds := by
  unfold downsM
  rw [diagM_len]
  refine List.ext_getElem ?_ fun k h1 h2 => ?_
  · rw [List.length_map, List.length_range]
    omega
  · rw [List.length_map, List.length_range] at h1
    rw [List.getElem_map, List.getElem_range, diag_at (by omega) (by omega), if_pos rfl, List.getD_eq_getElem?_getD, List.getElem?_eq_getElem h2]
    rfl
theorem diag_small {M m wd : Nat} {ds : List Int} (h : ∀ x ∈ ds, x.natAbs ≤ M) : ∀ r ∈ diagM m wd ds, r.length = wd ∧ ∀ x ∈ r, x.natAbs ≤ M := by
  intro r hr
  refine ⟨diag_wide r hr, fun x hx => ?_⟩
  unfold diagM at hr
  obtain ⟨k, hk, rfl⟩ := List.mem_map.mp hr
  obtain ⟨j, hj, rfl⟩ := List.mem_map.mp hx
  split
  · rw [List.getD_eq_getElem?_getD]
    cases q : ds[k]? with
    | none => simp
    | some z =>
      simp only [Option.getD_some]
      exact h z (List.mem_of_getElem? q)
  · simp
def setR (rs : List (List Int)) (i j : Nat) (z : Int) : List (List Int) := (rs.take i ++ [((rs.getD i []).take j ++ [z]) ++ (rs.getD i []).drop (j + 1)]) ++ rs.drop (i + 1)
theorem setR_wide {rs : List (List Int)} {wd i j : Nat} {z : Int} (hi : i < rs.length) (hj : j < wd) (h : ∀ r ∈ rs, r.length = wd) : ∀ r ∈ setR rs i j z, r.length = wd := by
  intro r hr
  unfold setR at hr
  rcases List.mem_append.mp hr with q | q
  · rcases List.mem_append.mp q with q | q
    · exact h r (List.mem_of_mem_take q)
    · rw [List.mem_singleton.mp q]
      have := h _ (Gd.getD_mem (d := []) hi)
      simp only [List.length_append, List.length_take, List.length_drop, List.length_singleton]
      omega
  · exact h r (List.mem_of_mem_drop q)
theorem setR_len {rs : List (List Int)} {i j : Nat} {z : Int} (hi : i < rs.length) : (setR rs i j z).length = rs.length := by
  unfold setR
  simp only [List.length_append, List.length_take, List.length_drop, List.length_singleton]
  omega
theorem setR_small {M : Nat} {rs : List (List Int)} {i j : Nat} {z : Int} (hi : i < rs.length) (hz : z.natAbs ≤ M) (h : ∀ r ∈ rs, ∀ x ∈ r, x.natAbs ≤ M) : ∀ r ∈ setR rs i j z, ∀ x ∈ r, x.natAbs ≤ M := by
  intro r hr x hx
  unfold setR at hr
  rcases List.mem_append.mp hr with q | q
  · rcases List.mem_append.mp q with q | q
    · exact h r (List.mem_of_mem_take q) x hx
    · rw [List.mem_singleton.mp q] at hx
      have hh := h _ (Gd.getD_mem (d := []) hi)
      rcases List.mem_append.mp hx with p | p
      · rcases List.mem_append.mp p with p | p
        · exact hh x (List.mem_of_mem_take p)
        · rw [List.mem_singleton.mp p]
          exact hz
      · exact hh x (List.mem_of_mem_drop p)
  · exact h r (List.mem_of_mem_drop q) x hx
theorem setR_data {rs : List (List Int)} {i j : Nat} {z : Int} : rowsD (setR rs i j z) = .tuple (((rs.map rowD).take i ++ [PyData.tuple (((((rs.getD i []).map PyData.int)).take j ++ [.int z]) ++ (((rs.getD i []).map PyData.int)).drop (j + 1))]) ++ (rs.map rowD).drop (i + 1)) := by
  unfold rowsD setR rowD
  simp only [List.map_append, List.map_take, List.map_drop, List.map_cons, List.map_nil]

end K55

set_option Elab.async false
set_option linter.all false
set_option maxRecDepth 100000
set_option maxHeartbeats 1000000
namespace K55
open PySem PySem.Spec PyProof.Rows L2 Gd
variable {P : Program} {w : World} {K : PySem.W.Frag} {mg : Str → Option Value} {base : Heap}
/-- rows[:i] + (rows[i][:j] + (z,) + rows[i][j + 1:],) + rows[i + 1:] -/
theorem nth_at {a b c d : Int} {r : Int} (r0 : 0 ≤ r) (r1 : r < 4) : ∃ z, z ∈ [a, b, c, d] ∧ atI [V.int a, .int b, .int c, .int d] r = some (.int z) := by
  have : r = 0 ∨ r = 1 ∨ r = 2 ∨ r = 3 := by omega
  rcases this with rfl | rfl | rfl | rfl
  · exact ⟨a, by simp, rfl⟩
  · exact ⟨b, by simp, rfl⟩
  · exact ⟨c, by simp, rfl⟩
  · exact ⟨d, by simp, rfl⟩
def spNear (K : PySem.W.Frag) : Sp := fun vs H Q _ => ∃ (a s l : Addr) (m wd n : Nat) (ds : List Int), vs = [.ref a, .int m, .int wd, .ref l] ∧ Fx H a s n ∧ n + 10 ≤ 1000000 ∧ H l = some (.lst (ds.map V.int)) ∧ l ≠ a ∧ m ≤ 5 ∧ wd ≤ 5 ∧ ds.length = min m wd ∧ (∀ x ∈ ds, x.natAbs ≤ 10 ^ 96) ∧
  ∀ (v : V) (H' : Hp) (rs : List (List Int)), Sb a H H' → Fx H' a s (n + 10) → Dq K a H' v (tabD wd rs) → Fn (10 ^ 97) 3 100 (tabD wd rs) → Q v H'
theorem ok_l_near (D : Df K mg "_law_near" s_l_near) (B : Bn mg) (h_l_draw : Has P w K mg base "_law_draw" 1 p_l_draw spDrawX) (h_l_rounds : Has P w K mg base "_law_rounds" 1 p_l_rounds (spLRounds K)) :
    Has P w K mg base "_law_near" 2 p_l_near (spNear K) := by
  refine has_of (k := 1) D sc_l_near bn_l_near ?_ ?_
  · rintro vs H Q E ⟨a, s, l, m, wd, n, ds, rfl, _⟩
    rfl
  rintro f cdv A outer s0 H vs Q E hr ⟨a, s, l, m, wd, n, ds, rfl, f0, hn, hl, hla, hm, hwd, hds, hsm, ke⟩
  refine ⟨_, (pss_cons (ps_asg (pe_has (h_l_draw) (hr.mono (by first | decide | omega)) (by rfl) (pa_cons (pv 0) (pa_cons pe_int pa_nil))) (pg_name (i := 4) sc_l_near.nd rfl (by first | exact Or.inl rfl | exact Or.inr rfl)))
      (pss_cons (ps_asg (pe_has (h_l_draw) (hr.mono (by first | decide | omega)) (by rfl) (pa_cons (pv 0) (pa_cons (pe_callB (call_max2 (by rfl)) (by rfl) B.max_ (by decide +kernel) (pa_cons pe_int (pa_cons (pe_callB (call_lenK (K := K) (by rfl)) (by rfl) B.len_ (by decide +kernel) (pa_cons (pv 3) pa_nil)) pa_nil))) pa_nil))) (pg_name (i := 5) sc_l_near.nd rfl (by first | exact Or.inl rfl | exact Or.inr rfl)))
      (pss_cons (ps_asg (pe_callTy (call_listK (K := K) (by rfl)) (by rfl) B.list_ (by decide +kernel) (pa_cons (pv 3) pa_nil)) (pg_name (i := 6) sc_l_near.nd rfl (by first | exact Or.inl rfl | exact Or.inr rfl)))
      (Evl.pss_cut (ps_if (PW.pt (pw_and (pt_cmpR op_eq (pv 4) pe_int (nomark _)) (pw_and1 (pt_cmpR (op_neK (K := K) (by rfl) hr.units) (pv 6) (pe_lst pa_nil) (nomark _))))) (pss_one (ps_asg (pe_ix (ix_listK (K := K) (by rfl)) (pe_lst (pa_cons (pe_op op_sub pe_int (pe_ix (ix_listK (K := K) (by rfl)) (pv 6) (pv 5) (fun _ _ => rfl))) (pa_cons (pe_op op_add (pe_ix (ix_listK (K := K) (by rfl)) (pv 6) (pv 5) (fun _ _ => rfl)) pe_int) (pa_cons pe_int (pa_cons pe_int pa_nil))))) (pe_has (h_l_draw) (hr.mono (by first | decide | omega)) (by rfl) (pa_cons (pv 0) (pa_cons pe_int pa_nil))) (fun _ _ => rfl)) (pg_sub (pv 6) (pv 5) set_list))) pss_nil)
      (Evl.pss_cut (ps_if (pt_cmpR op_eq (pv 4) pe_int (nomark _)) (pss_one (ps_expr (pe_bm0 PySem.F.plainAttrs_list PySem.F.slot_list_reverse PySem.F.type_list_reverse mt_reverse (pv 6)))) pss_nil)
      (pss_cons (ps_asg (pe_has (h_l_rounds) (hr.mono (by first | decide | omega)) (by rfl) (pa_cons (pv 1) (pa_cons (pv 2) (pa_cons (pv 6) pa_nil)))) (pg_tupK (K := K) (n := 2) (by rfl) (by rfl) (pgs_cons (pg_name (i := 2) sc_l_near.nd rfl (by first | exact Or.inl rfl | exact Or.inr rfl)) (pgs_cons (pg_name (i := 7) sc_l_near.nd rfl (by first | exact Or.inl rfl | exact Or.inr rfl)) pgs_nil))))
      (Evl.pss_cut (ps_if (PW.pt (pw_and (pt_cmpR op_gt (pv 4) pe_int (nomark _)) (pw_and (pt_cmpR op_gt (pv 1) pe_int (nomark _)) (pw_and1 (pt_cmpR op_gt (pv 2) pe_int (nomark _)))))) (pss_cons (ps_par (i := 8) (j := 9) (by rfl) sc_l_near.nd rfl rfl (by decide) rfl rfl (pa_cons (pe_has (h_l_draw) (hr.mono (by first | decide | omega)) (by rfl) (pa_cons (pv 0) (pa_cons (pv 1) pa_nil))) (pa_cons (pe_has (h_l_draw) (hr.mono (by first | decide | omega)) (by rfl) (pa_cons (pv 0) (pa_cons (pv 2) pa_nil))) pa_nil)) (by rfl))
      (pss_cons (ps_asg (pe_op (op_catK (K := K) (by rfl)) (pe_op (op_catK (K := K) (by rfl)) (pe_slice (sl_tupK (K := K) (by rfl)) (pe_ix (ix_tupK (K := K) (by rfl)) (pv 7) (pv 8) (fun _ _ => rfl)) po_none (po_some (pv 9))) (pe_tup (pa_cons (pe_ix (ix_listK (K := K) (by rfl)) (pe_lst (pa_cons pe_int (pa_cons (pe_un un_neg pe_int) (pa_cons pe_int (pa_cons (pe_op op_pow pe_int pe_int) pa_nil))))) (pe_has (h_l_draw) (hr.mono (by first | decide | omega)) (by rfl) (pa_cons (pv 0) (pa_cons pe_int pa_nil))) (fun _ _ => rfl)) pa_nil))) (pe_slice (sl_tupK (K := K) (by rfl)) (pe_ix (ix_tupK (K := K) (by rfl)) (pv 7) (pv 8) (fun _ _ => rfl)) (po_some (pe_op op_add (pv 9) pe_int)) po_none)) (pg_name (i := 10) sc_l_near.nd rfl (by first | exact Or.inl rfl | exact Or.inr rfl)))
      (pss_one (ps_asg (pe_op (op_catK (K := K) (by rfl)) (pe_op (op_catK (K := K) (by rfl)) (pe_slice (sl_tupK (K := K) (by rfl)) (pv 7) po_none (po_some (pv 8))) (pe_tup (pa_cons (pv 10) pa_nil))) (pe_slice (sl_tupK (K := K) (by rfl)) (pv 7) (po_some (pe_op op_add (pv 8) pe_int)) po_none)) (pg_name (i := 7) sc_l_near.nd rfl (by first | exact Or.inl rfl | exact Or.inr rfl)))))) pss_nil)
      (pss_one (ps_ret (pe_tup (pa_cons (pv 2) (pa_cons (pv 7) pa_nil)))))))))))), ?_⟩
  refine ⟨_, rfl, a, s, _, n, rfl, f0, by omega, by decide, by decide, fun wy H1 w0 w1 sb1 f1 => ?_⟩
  have hl1 := sb1 _ _ hla hl
  have emax : (if ((ds.map V.int).length : Int) > 1 then ((ds.map V.int).length : Int) else 1) = (if (1 : Int) < ((ds.map V.int).length : Int) then ((ds.map V.int).length : Int) else 1) := rfl
  have hlen : ((ds.map V.int).length : Int) = (ds.length : Int) := by rw [List.length_map]
  refine ⟨_, rfl, _, rfl, l, _, rfl, .inl (SqL.of hl1), _, _, rfl, a, s, _, n + 1, rfl, f1, by omega, ?_, ?_, fun ra H2 a0 a1 sb2 f2 => ?_⟩
  · rw [hlen]; split <;> omega
  · rw [hlen]; split <;> omega
  rw [hlen] at a1
  have hat : 0 < ds.length → ra < ds.length := fun h => by
    split at a1 <;> omega
  obtain ⟨at', rfl⟩ := Int.eq_ofNat_of_zero_le a0
  have hl2 := sb2 _ _ hla hl1
  refine ⟨_, rfl, l, _, rfl, .inl (SqL.of hl2), fun q nq => ?_⟩
  have nqa : q ≠ a := new_ne f2.nn nq
  have nqs : q ≠ s := (f2.apart nq).2
  have hq0 : H q = none := (sb1.trans sb2).free nqa nq
  have e3 := Same.new (o := .lst (ds.map V.int)) nq
  have f3 := f2.same e3
  have sb3 := (sb1.trans sb2).trans (Sb.of (a := a) e3)
  refine ⟨fun σ' H' => ∃ es : List Int, es.length = ds.length ∧ (∀ x ∈ es, x.natAbs ≤ 10 ^ 97) ∧ H' q = some (.lst (es.map V.int)) ∧ Sb a H H' ∧ Fx H' a s (n + 3) ∧
    σ' = [some (.ref a), some (.int m), some (.int wd), some (.ref l), some (.int wy), some (.int (at' : Int)), some (.ref q), none, none, none, none], ?_, ?_⟩
  · have stay : ∃ es : List Int, es.length = ds.length ∧ (∀ x ∈ es, x.natAbs ≤ 10 ^ 97) ∧ upd H2 q (.lst (ds.map V.int)) q = some (.lst (es.map V.int)) ∧ Sb a H (upd H2 q (.lst (ds.map V.int))) ∧ Fx (upd H2 q (.lst (ds.map V.int))) a s (n + 3) ∧
        [some (V.ref a), some (.int m), some (.int wd), some (.ref l), some (.int wy), some (.int (at' : Int)), some (.ref q), none, none, none, none] = [some (V.ref a), some (.int m), some (.int wd), some (.ref l), some (.int wy), some (.int (at' : Int)), some (.ref q), none, none, none, none] :=
      ⟨ds, rfl, fun x hx => by have := hsm x hx; omega, upd_same, sb3, f3.mono (by omega), rfl⟩
    refine ⟨_, rfl, rfl, _, rfl, ?_⟩
    refine ite2 (fun _ => ?_) (fun _ => stay)
    refine ⟨_, rfl, Nat.zero_le _, fun p4 np4 => ?_⟩
    have e4 := Same.new (o := .lst []) np4
    have hq4 := e4 _ _ (upd_same (H := H2) (a := q) (o := .lst (ds.map V.int)))
    refine ⟨.list (ds.map PyData.int), .list [], .lst (SqL.of hq4) (dp_ints ds), .lst (SqL.of upd_same) .nil, ints_shaped ds, ints_shaped [], _, rfl, ?_⟩
    rw [ints_nil]
    have f4 := f3.same e4
    have sb4 := sb3.trans (Sb.of (a := a) e4)
    refine ite2 (fun hne => ?_) (fun _ => ⟨ds, rfl, fun x hx => by have := hsm x hx; omega, hq4, sb4, f4.mono (by omega), rfl⟩)
    have hne : ds ≠ [] := by
      intro z
      rw [decide_eq_true z] at hne
      cases hne
    have hpos : 0 < ds.length := List.length_pos_iff.mpr hne
    have hatl : at' < ds.length := by have := hat hpos; omega
    have hget : atI (ds.map V.int) (at' : Int) = some (.int (ds.getD at' 0)) := atI_nat (int_at hatl)
    have hgs := hsm _ (Gd.getD_mem (d := 0) hatl)
    refine ⟨_, rfl, _, rfl, q, _, _, _, rfl, rfl, SqL.of hq4, hget, _, _, rfl, rfl, _, rfl, _, rfl, q, _, _, _, rfl, rfl, SqL.of hq4, hget, _, _, rfl, rfl, ?_⟩
    refine ⟨by show 4 ≤ sizeLine; decide, fun p5 np5 => ?_⟩
    have e5 := Same.new (o := .lst [.int (0 - ds.getD at' 0), .int (ds.getD at' 0 + 1), .int 0, .int 7]) np5
    have f5 := f4.same e5
    have n5 := new_ne f4.nn np5
    refine ⟨_, rfl, a, s, _, n + 2, rfl, f5, by omega, by decide, by decide, fun r H6 r0 r1 sb6 f6 => ?_⟩
    have h6 := sb6 _ _ n5 (upd_same (H := upd (upd H2 q (.lst (ds.map V.int))) p4 (.lst [])) (a := p5) (o := .lst [.int (0 - ds.getD at' 0), .int (ds.getD at' 0 + 1), .int 0, .int 7]))
    obtain ⟨z, hz, hzat⟩ := nth_at (a := 0 - ds.getD at' 0) (b := ds.getD at' 0 + 1) (c := 0) (d := 7) r0 r1
    have hzs : z.natAbs ≤ 10 ^ 97 := by
      simp only [List.mem_cons, List.not_mem_nil, or_false] at hz
      rcases hz with rfl | rfl | rfl | rfl <;> omega
    have hq6 := sb6 _ _ nqa (e5 _ _ hq4)
    refine ⟨p5, _, _, _, rfl, rfl, SqL.of h6, hzat, _, rfl, _, rfl, q, _, _, at', rfl, rfl, hq6, ixN_of (by rw [List.length_map]; exact hatl), ?_⟩
    refine ⟨ds.set at' z, by rw [List.length_set], fun x hx => ?_, ?_, ?_, ?_, rfl⟩
    · rcases List.mem_or_eq_of_mem_set hx with h | h
      · have := hsm x h
        omega
      · rw [h]
        exact hzs
    · rw [upd_same, List.map_set]
    · exact ((sb4.trans (Sb.of e5)).trans sb6).mut hq0
    · exact f6.upd nqa nqs
  rintro σ' H3 ⟨es, hes, hsm3, hq3, sb3, f3, rfl⟩
  refine ⟨fun σ' H' => ∃ es : List Int, es.length = ds.length ∧ (∀ x ∈ es, x.natAbs ≤ 10 ^ 97) ∧ H' q = some (.lst (es.map V.int)) ∧ Sb a H H' ∧ Fx H' a s (n + 3) ∧
    σ' = [some (.ref a), some (.int m), some (.int wd), some (.ref l), some (.int wy), some (.int (at' : Int)), some (.ref q), none, none, none, none], ?_, ?_⟩
  · refine ⟨_, rfl, rfl, _, rfl, ?_⟩
    refine ite2 (fun _ => ?_) (fun _ => ⟨es, hes, hsm3, hq3, sb3, f3, rfl⟩)
    refine ⟨_, rfl, .inl ⟨rfl, _, SqL.of hq3⟩, q, _, rfl, rfl, hq3, ?_⟩
    refine ⟨es.reverse, by rw [List.length_reverse]; exact hes, fun x hx => hsm3 x (List.mem_reverse.mp hx), ?_, sb3.mut hq0, f3.upd nqa nqs, rfl⟩
    rw [upd_same, List.map_reverse]
  rintro σ' H4 ⟨es, hes, hsm4, hq4, sb4, f4, rfl⟩
  refine ⟨_, rfl, _, rfl, _, rfl, q, m, wd, es, rfl, SqL.of hq4, by omega, by omega, by omega, fun v5 H5 e5 hv5 => ?_⟩
  have f5 := f4.same e5
  have sb5 := sb4.trans (Sb.of (a := a) e5)
  obtain ⟨pt, ur, rfl, htab, hrows⟩ := dp_tab hv5
  refine ⟨pt, _, rfl, htab, rfl, _, _, rfl, _, _, rfl, rfl, ?_⟩
  have hrows := dp_qx f5 (rowsD_tup _) hrows
  have hsmall := diag_small (m := m) (wd := wd) hsm4
  have hdl := diagM_len m wd es
  generalize diagM m wd es = rs at hrows hsmall hdl
  refine ⟨fun σ' H' => ∃ (rs : List (List Int)) (ur : V) (w8 w9 w10 : Option V), rs.length = m ∧ (∀ r ∈ rs, r.length = wd ∧ ∀ x ∈ r, x.natAbs ≤ 10 ^ 97) ∧ Dq K a H' ur (rowsD rs) ∧ Sb a H H' ∧ Fx H' a s (n + 6) ∧
    σ' = [some (.ref a), some (.int m), some (.int wd), some (.ref l), some (.int wy), some (.int (at' : Int)), some (.ref q), some ur, w8, w9, w10], ?_, ?_⟩
  · have stay : ∃ (rs : List (List Int)) (ur' : V) (w8 w9 w10 : Option V), rs.length = m ∧ (∀ r ∈ rs, r.length = wd ∧ ∀ x ∈ r, x.natAbs ≤ 10 ^ 97) ∧ Dq K a H5 ur' (rowsD rs) ∧ Sb a H H5 ∧ Fx H5 a s (n + 6) ∧
        [some (V.ref a), some (.int m), some (.int wd), some (.ref l), some (.int wy), some (.int (at' : Int)), some (.ref q), some ur, none, none, none] = [some (V.ref a), some (.int m), some (.int wd), some (.ref l), some (.int wy), some (.int (at' : Int)), some (.ref q), some ur', w8, w9, w10] :=
      ⟨rs, ur, _, _, _, hdl, hsmall, hrows, sb5, f5.mono (by omega), rfl⟩
    refine ⟨_, rfl, _, _, rfl, rfl, _, rfl, ?_⟩
    refine ite2 (fun _ => ?_) (fun _ => stay)
    refine ⟨_, rfl, _, _, rfl, rfl, _, rfl, ?_⟩
    refine ite2 (fun hmp => ?_) (fun _ => stay)
    have hmp := of_decide_eq_true hmp
    refine ⟨_, rfl, _, _, rfl, rfl, _, rfl, ?_⟩
    refine ite2 (fun hwp => ?_) (fun _ => stay)
    have hwp := of_decide_eq_true hwp
    refine ⟨_, rfl, _, rfl, a, s, _, n + 3, rfl, f5, by omega, by omega, by omega, fun ri H6 i0 i1 sb6 f6 => ?_⟩
    refine ⟨_, rfl, _, rfl, a, s, _, n + 4, rfl, f6, by omega, by omega, by omega, fun rj H7 j0 j1 sb7 f7 => ?_⟩
    obtain ⟨i, rfl⟩ := Int.eq_ofNat_of_zero_le i0
    obtain ⟨j, rfl⟩ := Int.eq_ofNat_of_zero_le j0
    refine ⟨_, _, rfl, ?_⟩
    have hi : i < rs.length := by omega
    have hj : j < wd := by omega
    have hr7 := Dq.sb (Dq.sb hrows sb6) sb7
    have sb07 := (sb5.trans sb6).trans sb7
    obtain ⟨hrl, hrm⟩ := hsmall _ (Gd.getD_mem (d := []) hi)
    refine ⟨_, rfl, _, rfl, ?_⟩
    refine ix_dq hr7 (rows_getD hi) fun x8 hx8 => ?_
    refine ⟨_, rfl, _, rfl, ?_⟩
    refine sl_to (i := j) rfl f7.nn hx8 fun v8 H8 e8 hv8 => ?_
    have f8 := f7.same e8
    refine ⟨_, rfl, _, _, rfl, rfl, ⟨by decide, by decide, by decide⟩, by show 4 ≤ sizeLine; decide, fun p9 np9 => ?_⟩
    have e9 := Same.new (o := .lst [.int 1, .int (-1), .int 0, .int (10 ^ Int.toNat 40)]) np9
    have f9 := f8.same e9
    have n9 := new_ne f8.nn np9
    refine ⟨_, rfl, a, s, _, n + 5, rfl, f9, by omega, by decide, by decide, fun r H10 r0 r1 sb10 f10 => ?_⟩
    have h10 := sb10 _ _ n9 (upd_same (H := H8) (a := p9) (o := .lst [.int 1, .int (-1), .int 0, .int (10 ^ Int.toNat 40)]))
    obtain ⟨z, hz, hzat⟩ := nth_at (a := 1) (b := -1) (c := 0) (d := 10 ^ Int.toNat 40) r0 r1
    have hzs : z.natAbs ≤ 10 ^ 97 := by
      simp only [List.mem_cons, List.not_mem_nil, or_false] at hz
      rcases hz with rfl | rfl | rfl | rfl <;> decide
    refine ⟨p9, _, _, _, rfl, rfl, SqL.of h10, hzat, by show 1 ≤ sizeLine; decide, fun p11 np11 => ?_⟩
    obtain ⟨H11, xH11, e11, h11⟩ := tupQ (K := K) f10.nn np11 (.cons (.int z) .nil)
    rw [xH11]
    have f11 := f10.same e11
    have hv11 := (Dq.sb (hv8.same e9) sb10).same e11
    have hr11 := (Dq.sb (hr7.same (e8.trans e9)) sb10).same e11
    refine cat_dq f11.nn hv11 h11 (by rw [List.length_take, List.length_map]; simp; omega) fun v12 H12 e12 hv12 => ?_
    have f12 := f11.same e12
    have hr12 := hr11.same e12
    refine ⟨_, rfl, _, rfl, ?_⟩
    refine ix_dq hr12 (rows_getD hi) fun x13 hx13 => ?_
    refine ⟨_, rfl, _, _, rfl, rfl, _, rfl, ?_⟩
    dsimp only [tNoPart]
    refine sl_from (i := j + 1) (z := (j : Int) + 1) (by omega) f12.nn hx13 fun v13 H13 e13 hv13 => ?_
    have f13 := f12.same e13
    refine cat_dq f13.nn (hv12.same e13) hv13 (by simp only [List.length_append, List.length_take, List.length_drop, List.length_map, List.length_cons, List.length_nil]; omega) fun v14 H14 e14 hv14 => ?_
    have f14 := f13.same e14
    have hr14 := hr12.same (e13.trans e14)
    refine ⟨_, rfl, _, rfl, _, rfl, ?_⟩
    refine sl_to (i := i) rfl f14.nn hr14 fun v15 H15 e15 hv15 => ?_
    have f15 := f14.same e15
    refine ⟨_, rfl, by show 1 ≤ sizeLine; decide, fun p16 np16 => ?_⟩
    obtain ⟨H16, xH16, e16, h16⟩ := tupQ (K := K) f15.nn np16 (.cons (hv14.same e15) .nil)
    rw [xH16]
    have f16 := f15.same e16
    refine cat_dq f16.nn (hv15.same e16) h16 (by rw [List.length_take, List.length_map]; simp; omega) fun v17 H17 e17 hv17 => ?_
    have f17 := f16.same e17
    have hr17 := hr14.same (e15.trans (e16.trans e17))
    refine ⟨_, rfl, _, rfl, _, _, rfl, rfl, _, rfl, ?_⟩
    dsimp only [tNoPart]
    refine sl_from (i := i + 1) (z := (i : Int) + 1) (by omega) f17.nn hr17 fun v18 H18 e18 hv18 => ?_
    have f18 := f17.same e18
    refine cat_dq f18.nn (hv17.same e18) hv18 (by simp only [List.length_append, List.length_take, List.length_drop, List.length_map, List.length_cons, List.length_nil]; omega) fun v19 H19 e19 hv19 => ?_
    rw [← setR_data] at hv19
    refine ⟨setR rs i j z, v19, _, _, _, by rw [setR_len hi]; exact hdl, fun r hr => ⟨setR_wide hi hj (fun r hr => (hsmall r hr).1) r hr, setR_small hi hzs (fun r hr => (hsmall r hr).2) r hr⟩, hv19, ?_, ?_, rfl⟩
    · exact ((sb07.trans (Sb.of (e8.trans e9))).trans sb10).trans (Sb.of ((e11.trans (e12.trans (e13.trans e14))).trans ((e15.trans (e16.trans e17)).trans (e18.trans e19))))
    · exact (f18.same e19).mono (by omega)
  rintro σ' H6 ⟨rs, ur, w8, w9, w10, hrl, hsm6, hr6, sb6, f6, rfl⟩
  refine ⟨_, rfl, _, rfl, by show 2 ≤ sizeLine; decide, fun p7 np7 => ?_⟩
  obtain ⟨H7, xH7, e7, h7⟩ := tupQ (K := K) f6.nn np7 (.cons (.int (wd : Int)) (.cons hr6 .nil))
  rw [xH7]
  refine ke _ H7 rs (sb6.trans (Sb.of e7)) ((f6.same e7).mono (by omega)) h7 (tab_fn (by omega) hsm6 ?_)
  rw [hrl]
  have : m * (1 + wd) ≤ 5 * 6 := Nat.mul_le_mul hm (by omega)
  omega

end K55

set_option Elab.async false
set_option linter.all false
set_option maxRecDepth 100000
set_option maxHeartbeats 1000000
namespace K55
open PySem PySem.Spec PyProof.Rows L2 Gd
variable {P : Program} {w : World} {K : PySem.W.Frag} {mg : Str → Option Value} {base : Heap}
theorem sh_one (b : Bool) : Sh 0 100 (.bool b) := by
  cases b <;> exact ⟨by decide +kernel, by decide +kernel, by decide +kernel, by decide +kernel⟩
theorem Fn.fineSh {d : PyData} (h : Fine d) : Sh 20 15300000 d := Gd.Fn.sh (h.mono (Nat.le_refl _) (Nat.le_refl _) (by decide : 3999 ≤ 8000)) big99 (by decide)
theorem fine_row {ds : List Int} (h1 : ds.length ≤ 100) (h2 : ∀ x ∈ ds, x.natAbs ≤ 10 ^ 99) : Fine (rowD ds) := by
  obtain ⟨k1, k2, k3⟩ := row_fn h2
  exact ⟨k1, by omega, by omega⟩
theorem rep_ones (k : Nat) : (List.replicate k [V.int 1]).flatten = (List.replicate k (1 : Int)).map V.int := by
  induction k with
  | zero => rfl
  | succ k ih => rw [List.replicate_succ, List.flatten_cons, ih, List.replicate_succ]; rfl
def spGreat (K : PySem.W.Frag) : Sp := fun vs H Q _ => ∃ (a s : Addr) (n : Nat), vs = [.ref a] ∧ Fx H a s n ∧ n + 10 ≤ 1000000 ∧ ∀ H', Q (.bl true) H'
theorem ok_l_great_right (D : Df K mg "_law_great_right" s_l_great_right) (B : Bn mg) (h_l_draw : Has P w K mg base "_law_draw" 1 p_l_draw spDrawX) (h_l_rounds : Has P w K mg base "_law_rounds" 1 p_l_rounds (spLRounds K))
    (h_is_rounds : Has P w K mg base "is_rounds" 4 p_is_rounds (spIsRounds K)) (h_downs_of : Has P w K mg base "downs_of" 1 p_downs_of (spDowns K)) (h_l_is_rounds : Has P w K mg base "_law_is_rounds" 2 p_l_is_rounds (spLIsRounds K)) :
    HasG P w K mg base "_law_great_right" 5 p_l_great_right (spGreat K) := by
  refine hasG_of (k := 4) D sc_l_great_right bn_l_great_right ?_ ?_
  · rintro vs H Q E ⟨a, s, n, rfl, _⟩
    rfl
  rintro f cdv A outer s0 H vs Q E hG hr ⟨a, s, n, rfl, f0, hn, ke⟩
  refine ⟨_, (pss_cons (ps_par (i := 1) (j := 2) (by rfl) sc_l_great_right.nd rfl rfl (by decide) rfl rfl (pa_cons (pe_op op_add pe_int (pe_has (h_l_draw) (hr.mono (by first | decide | omega)) (by rfl) (pa_cons (pv 0) (pa_cons pe_int pa_nil)))) (pa_cons (pe_op op_add pe_int (pe_has (h_l_draw) (hr.mono (by first | decide | omega)) (by rfl) (pa_cons (pv 0) (pa_cons pe_int pa_nil)))) pa_nil)) (by rfl))
      (pss_cons (ps_par (i := 3) (j := 4) (by rfl) sc_l_great_right.nd rfl rfl (by decide) rfl rfl (pa_cons (pe_has (h_l_draw) (hr.mono (by first | decide | omega)) (by rfl) (pa_cons (pv 0) (pa_cons (pv 1) pa_nil))) (pa_cons (pe_has (h_l_draw) (hr.mono (by first | decide | omega)) (by rfl) (pa_cons (pv 0) (pa_cons (pv 2) pa_nil))) pa_nil)) (by rfl))
      (pss_cons (ps_asg (pe_ix (ix_listK (K := K) (by rfl)) (pe_lst (pa_cons pe_int (pa_cons (pe_un un_neg pe_int) (pa_cons pe_int (pa_cons pe_int pa_nil))))) (pe_has (h_l_draw) (hr.mono (by first | decide | omega)) (by rfl) (pa_cons (pv 0) (pa_cons pe_int pa_nil))) (fun _ _ => rfl)) (pg_name (i := 5) sc_l_great_right.nd rfl (by first | exact Or.inl rfl | exact Or.inr rfl)))
      (pss_cons (ps_asg (pe_op op_rep (pe_lst (pa_cons pe_int pa_nil)) (pe_callB (call_min2 (by rfl)) (by rfl) B.min_ (by decide +kernel) (pa_cons (pv 1) (pa_cons (pv 2) pa_nil)))) (pg_name (i := 6) sc_l_great_right.nd rfl (by first | exact Or.inl rfl | exact Or.inr rfl)))
      (pss_cons (ps_asg (pe_has (h_l_rounds) (hr.mono (by first | decide | omega)) (by rfl) (pa_cons (pv 1) (pa_cons (pv 2) (pa_cons (pv 6) pa_nil)))) (pg_name (i := 7) sc_l_great_right.nd rfl (by first | exact Or.inl rfl | exact Or.inr rfl)))
      (pss_cons (ps_asg (pe_op (op_catK (K := K) (by rfl)) (pe_op (op_catK (K := K) (by rfl)) (pe_slice (sl_tupK (K := K) (by rfl)) (pe_ix (ix_tupK (K := K) (by rfl)) (pe_ix (ix_tupK (K := K) (by rfl)) (pv 7) pe_int (fun _ _ => rfl)) (pv 3) (fun _ _ => rfl)) po_none (po_some (pv 4))) (pe_tup (pa_cons (pv 5) pa_nil))) (pe_slice (sl_tupK (K := K) (by rfl)) (pe_ix (ix_tupK (K := K) (by rfl)) (pe_ix (ix_tupK (K := K) (by rfl)) (pv 7) pe_int (fun _ _ => rfl)) (pv 3) (fun _ _ => rfl)) (po_some (pe_op op_add (pv 4) pe_int)) po_none)) (pg_name (i := 8) sc_l_great_right.nd rfl (by first | exact Or.inl rfl | exact Or.inr rfl)))
      (pss_cons (ps_asg (pe_tup (pa_cons (pv 2) (pa_cons (pe_op (op_catK (K := K) (by rfl)) (pe_op (op_catK (K := K) (by rfl)) (pe_slice (sl_tupK (K := K) (by rfl)) (pe_ix (ix_tupK (K := K) (by rfl)) (pv 7) pe_int (fun _ _ => rfl)) po_none (po_some (pv 3))) (pe_tup (pa_cons (pv 8) pa_nil))) (pe_slice (sl_tupK (K := K) (by rfl)) (pe_ix (ix_tupK (K := K) (by rfl)) (pv 7) pe_int (fun _ _ => rfl)) (po_some (pe_op op_add (pv 3) pe_int)) po_none)) pa_nil))) (pg_name (i := 9) sc_l_great_right.nd rfl (by first | exact Or.inl rfl | exact Or.inr rfl)))
      (Evl.pss_cut (ps_if (PW.pt (pw_or (pt_cmpR op_isNotB (pe_has (h_is_rounds) (hr.mono (by first | decide | omega)) (by rfl) (pa_cons (pv 7) pa_nil)) pe_bl (nomark _)) (pw_or1 (pt_cmpR op_ne (pe_callB (call_reprDK (K := K) (by rfl) hG hr.units) (by rfl) B.repr_ (by decide +kernel) (pa_cons (pe_has (h_downs_of) (hr.mono (by first | decide | omega)) (by rfl) (pa_cons (pv 7) pa_nil)) pa_nil)) (pe_callB (call_reprDK (K := K) (by rfl) hG hr.units) (by rfl) B.repr_ (by decide +kernel) (pa_cons (pe_callTy (call_tupleK (K := K) (by rfl)) (by rfl) B.tuple_ (by decide +kernel) (pa_cons (pv 6) pa_nil)) pa_nil)) (nomark _))))) (pss_one (ps_ret pe_bl)) pss_nil)
      (pss_one (ps_ret (pe_cmpR op_eq (pe_callB (call_reprDK (K := K) (by rfl) hG hr.units) (by rfl) B.repr_ (by decide +kernel) (pa_cons (pe_has (h_is_rounds) (hr.mono (by first | decide | omega)) (by rfl) (pa_cons (pv 9) pa_nil)) pa_nil)) (pe_callB (call_reprDK (K := K) (by rfl) hG hr.units) (by rfl) B.repr_ (by decide +kernel) (pa_cons (pe_has (h_l_is_rounds) (hr.mono (by first | decide | omega)) (by rfl) (pa_cons (pv 9) pa_nil)) pa_nil)) (nomark _)))))))))))), ?_⟩
  refine ⟨_, rfl, a, s, _, n, rfl, f0, by omega, by decide, by decide, fun r1 H1 r10 r11 sb1 f1 => ?_⟩
  refine ⟨_, _, rfl, rfl, _, rfl, a, s, _, n + 1, rfl, f1, by omega, by decide, by decide, fun r2 H2 r20 r21 sb2 f2 => ?_⟩
  obtain ⟨m', rfl⟩ := Int.eq_ofNat_of_zero_le r10
  obtain ⟨w', rfl⟩ := Int.eq_ofNat_of_zero_le r20
  refine ⟨_, _, rfl, rfl, _, _, rfl, ?_⟩
  obtain ⟨m, hm⟩ : ∃ m : Nat, m = 9 + m' := ⟨_, rfl⟩
  obtain ⟨wd, hwd⟩ : ∃ wd : Nat, wd = 9 + w' := ⟨_, rfl⟩
  have em : (9 : Int) + (m' : Int) = (m : Int) := by omega
  have ew : (9 : Int) + (w' : Int) = (wd : Int) := by omega
  dsimp only
  rw [em, ew]
  refine ⟨_, rfl, _, rfl, a, s, _, n + 2, rfl, f2, by omega, by omega, by omega, fun ri H3 i0 i1 sb3 f3 => ?_⟩
  refine ⟨_, rfl, _, rfl, a, s, _, n + 3, rfl, f3, by omega, by omega, by omega, fun rj H4 j0 j1 sb4 f4 => ?_⟩
  obtain ⟨i, rfl⟩ := Int.eq_ofNat_of_zero_le i0
  obtain ⟨j, rfl⟩ := Int.eq_ofNat_of_zero_le j0
  refine ⟨_, _, rfl, ?_⟩
  refine ⟨_, rfl, by show 4 ≤ sizeLine; decide, fun p5 np5 => ?_⟩
  have e5 := Same.new (o := .lst [.int 1, .int (-1), .int 0, .int 2]) np5
  have f5 := f4.same e5
  have n5 := new_ne f4.nn np5
  refine ⟨_, rfl, a, s, _, n + 4, rfl, f5, by omega, by decide, by decide, fun r H6 r0 r1 sb6 f6 => ?_⟩
  have h6 := sb6 _ _ n5 (upd_same (H := H4) (a := p5) (o := .lst [.int 1, .int (-1), .int 0, .int 2]))
  obtain ⟨z, hz, hzat⟩ := nth_at (a := 1) (b := -1) (c := 0) (d := 2) r0 r1
  have hzs : z.natAbs ≤ 10 ^ 97 := by
    simp only [List.mem_cons, List.not_mem_nil, or_false] at hz
    rcases hz with rfl | rfl | rfl | rfl <;> decide
  refine ⟨p5, _, _, _, rfl, rfl, SqL.of h6, hzat, ?_⟩
  -- the downs
  refine ⟨by show 1 ≤ sizeLine; decide, fun p7 np7 => ?_⟩
  have e7 := Same.new (o := .lst [V.int 1]) np7
  have f7 := f6.same e7
  refine ⟨_, rfl, _, rfl, _, _, rfl, p7, ((min m wd : Nat) : Int), _, rfl, ?_, upd_same, by omega, by omega, ?_, fun p8 np8 => ?_⟩
  · rw [min_nat]
  · rw [sizeLine_eq]
    simp only [List.length_cons, List.length_nil]
    omega
  rw [Int.toNat_natCast, rep_ones]
  have e8 := Same.new (o := .lst ((List.replicate (min m wd) (1 : Int)).map V.int)) np8
  have f8 := f7.same e8
  have h8 : upd (upd H6 p7 (.lst [V.int 1])) p8 (.lst ((List.replicate (min m wd) (1 : Int)).map V.int)) p8 = some (.lst ((List.replicate (min m wd) (1 : Int)).map V.int)) := upd_same
  obtain ⟨ds, hds⟩ : ∃ ds, List.replicate (min m wd) (1 : Int) = ds := ⟨_, rfl⟩
  have hdl : ds.length = min m wd := by rw [← hds, List.length_replicate]
  have hd1 : ∀ x ∈ ds, x = 1 := fun x hx => by rw [← hds] at hx; exact (List.mem_replicate.mp hx).2
  rw [hds] at h8 f8 ⊢
  have hg1 : ∀ k, k < min m wd → ds.getD k 0 = 1 := fun k hk => hd1 _ (Gd.getD_mem (d := 0) (by omega))
  have hRt : roundsM wd (diagM m wd ds) = true := diag_rounds (fun k hk => by rw [hg1 k hk]; decide) (fun k hk => by rw [hg1 k (by omega), hg1 (k + 1) hk]; decide)
  have hDn : downsM wd (diagM m wd ds) = ds := diag_downs hdl
  have hsmall := diag_small (M := 10 ^ 97) (m := m) (wd := wd) (ds := ds) (fun x hx => by rw [hd1 x hx]; decide)
  refine ⟨_, rfl, _, rfl, _, rfl, p8, m, wd, ds, rfl, SqL.of h8, by omega, by omega, by omega, fun v9 H9 e9 hv9 => ?_⟩
  have f9 := f8.same e9
  have h9 := e9 _ _ h8
  have hwide : ∀ r ∈ diagM m wd ds, r.length = wd := diag_wide
  have hrl := diagM_len m wd ds
  have hv9 := dp_qx f9 (tabD_tup _ _) hv9
  generalize diagM m wd ds = rs at hv9 hRt hDn hsmall hwide hrl
  have hi : i < rs.length := by omega
  have hj : j < wd := by omega
  obtain ⟨hrl1, hrm⟩ := hsmall _ (Gd.getD_mem (d := []) hi)
  have hsz : 3 + rs.length * (1 + wd) ≤ 3999 := by
    have : rs.length * (1 + wd) ≤ 16 * 17 := Nat.mul_le_mul (by omega) (by omega)
    omega
  have FG : Fine (tabD wd rs) := (tab_fn (M := 10 ^ 97) (by omega) hsmall hsz).mono (by decide) (by decide) (Nat.le_refl _)
  have hone : ([PyData.int (wd : Int), rowsD rs])[1]? = some (rowsD rs) := rfl
  -- the row
  refine ⟨_, rfl, ?_⟩
  try dsimp only [tC, tNil]
  refine ix_dq (i := 1) hv9 hone fun x10 hx10 => ?_
  refine ⟨_, rfl, ?_⟩
  refine ix_dq hx10 (rows_getD hi) fun x11 hx11 => ?_
  refine ⟨_, rfl, _, rfl, ?_⟩
  refine sl_to (i := j) rfl f9.nn hx11 fun v12 H12 e12 hv12 => ?_
  have f12 := f9.same e12
  refine ⟨_, rfl, by show 1 ≤ sizeLine; decide, fun p13 np13 => ?_⟩
  obtain ⟨H13, xH13, e13, h13⟩ := tupQ (K := K) f12.nn np13 (.cons (.int z) .nil)
  rw [xH13]
  have f13 := f12.same e13
  refine cat_dq f13.nn (hv12.same e13) h13 (by simp only [List.length_take, List.length_map, List.length_cons, List.length_nil]; omega) fun v14 H14 e14 hv14 => ?_
  have f14 := f13.same e14
  have hv9b := hv9.same (e12.trans (e13.trans e14))
  refine ⟨_, rfl, ?_⟩
  try dsimp only [tC, tNil]
  refine ix_dq (i := 1) hv9b hone fun x15 hx15 => ?_
  refine ⟨_, rfl, ?_⟩
  refine ix_dq hx15 (rows_getD hi) fun x16 hx16 => ?_
  refine ⟨_, rfl, _, _, rfl, rfl, _, rfl, ?_⟩
  dsimp only [tNoPart]
  refine sl_from (i := j + 1) (z := (j : Int) + 1) (by omega) f14.nn hx16 fun v17 H17 e17 hv17 => ?_
  have f17 := f14.same e17
  refine cat_dq f17.nn (hv14.same e17) hv17 (by simp only [List.length_append, List.length_take, List.length_drop, List.length_map, List.length_cons, List.length_nil]; omega) fun v18 H18 e18 hv18 => ?_
  have f18 := f17.same e18
  have hv9c := hv9b.same (e17.trans e18)
  -- the near one
  refine ⟨_, rfl, _, rfl, ?_⟩
  try dsimp only [tC, tNil]
  refine ix_dq (i := 1) hv9c hone fun x19 hx19 => ?_
  refine ⟨_, rfl, _, rfl, ?_⟩
  refine sl_to (i := i) rfl f18.nn hx19 fun v20 H20 e20 hv20 => ?_
  have f20 := f18.same e20
  refine ⟨_, rfl, by show 1 ≤ sizeLine; decide, fun p21 np21 => ?_⟩
  obtain ⟨H21, xH21, e21, h21⟩ := tupQ (K := K) f20.nn np21 (.cons (hv18.same e20) .nil)
  rw [xH21]
  have f21 := f20.same e21
  refine cat_dq f21.nn (hv20.same e21) h21 (by simp only [List.length_take, List.length_map, List.length_cons, List.length_nil]; omega) fun v22 H22 e22 hv22 => ?_
  have f22 := f21.same e22
  have hv9d := hv9c.same (e20.trans (e21.trans e22))
  refine ⟨_, rfl, ?_⟩
  try dsimp only [tC, tNil]
  refine ix_dq (i := 1) hv9d hone fun x23 hx23 => ?_
  refine ⟨_, rfl, _, _, rfl, rfl, _, rfl, ?_⟩
  dsimp only [tNoPart]
  refine sl_from (i := i + 1) (z := (i : Int) + 1) (by omega) f22.nn hx23 fun v24 H24 e24 hv24 => ?_
  have f24 := f22.same e24
  refine cat_dq f24.nn (hv22.same e24) hv24 (by simp only [List.length_append, List.length_take, List.length_drop, List.length_map, List.length_cons, List.length_nil]; omega) fun v25 H25 e25 hv25 => ?_
  have f25 := f24.same e25
  rw [← setR_data] at hv25
  refine ⟨by show 2 ≤ sizeLine; decide, fun p26 np26 => ?_⟩
  obtain ⟨H26, xH26, e26, h26⟩ := tupQ (K := K) f25.nn np26 (.cons (.int (wd : Int)) (.cons hv25 .nil))
  rw [xH26]
  have f26 := f25.same e26
  have e2226 := e24.trans (e25.trans e26)
  have hv26 := (hv9d.same e2226).dp
  have h26 : Dp K H26 (.ref p26) (tabD wd (setR rs i j z)) := h26.dp
  have FN : Fine (tabD wd (setR rs i j z)) := by
    refine (tab_fn (M := 10 ^ 97) (by omega) (fun r hr => ⟨setR_wide hi hj (fun r hr => (hsmall r hr).1) r hr, setR_small hi hzs (fun r hr => (hsmall r hr).2) r hr⟩) ?_).mono (by decide) (by decide) (Nat.le_refl 3999)
    rw [setR_len hi]
    exact hsz
  have e926 := ((e12.trans (e13.trans e14)).trans (e17.trans e18)).trans ((e20.trans (e21.trans e22)).trans e2226)
  have hl26 := e926 _ _ h9
  obtain ⟨S1, hS1⟩ : ∃ S1, (rowD ds).shown = S1 := ⟨_, rfl⟩
  have sD := Fn.fineSh (fine_row (ds := ds) (by omega) (fun x hx => by rw [hd1 x hx]; decide))
  refine ⟨fun σ' H' => Same H26 H' ∧ σ' = [some (.ref a), some (.int m), some (.int wd), some (.int (i : Int)), some (.int (j : Int)), some (.int z), some (.ref p8), some v9, some v18, some (.ref p26)], ?_, ?_⟩
  · refine ⟨_, rfl, v9, _, rfl, hv26, FG.sz, fun H27 e27 => ?_⟩
    rw [isRounds_tab hwide, hRt]
    refine ⟨_, _, rfl, rfl, _, rfl, iteF ?_⟩
    refine ⟨_, rfl, v9, wd, rs, rfl, Dp.same e27 _ _ hv26, by omega, hwide, fun u H28 e28 hu => ?_⟩
    rw [hDn] at hu
    try dsimp only [tC, tNil]
    refine reprD hu sD (by decide) (by decide) hS1 ?_
    refine ⟨_, rfl, p8, _, rfl, .inl ⟨SqL.of (e28 _ _ (e27 _ _ hl26)), fun l29 nl29 => ?_⟩⟩
    have e29 := Same.new (o := .tup (ds.map V.int)) nl29
    try dsimp only [tC, tNil]
    refine reprD (mk_row (r := ds) (SqT.of upd_same)) sD (by decide) (by decide) hS1 ?_
    refine ⟨rfl, _, rfl, ?_⟩
    exact iteNS rfl ⟨e27.trans (e28.trans e29), rfl⟩
  rintro σ' H27 ⟨e27, rfl⟩
  obtain ⟨S2, hS2⟩ : ∃ S2, (PyData.bool (isRoundsD (tabD wd (setR rs i j z)))).shown = S2 := ⟨_, rfl⟩
  refine ⟨_, rfl, _, _, rfl, Dp.same e27 _ _ h26, FN.sz, fun H28 e28 => ?_⟩
  try dsimp only [tC, tNil]
  refine reprD (.bl _) (sh_one _) (by decide) (by decide) hS2 ?_
  refine ⟨_, rfl, _, _, rfl, Dp.same (e27.trans e28) _ _ h26, FN, fun H29 e29 => ?_⟩
  try dsimp only [tC, tNil]
  refine reprD (.bl _) (sh_one _) (by decide) (by decide) hS2 ?_
  refine ⟨rfl, ?_⟩
  rw [decide_eq_true (rfl : V.str _ = V.str _)]
  exact ke _

end K55

set_option Elab.async false
set_option linter.all false
set_option maxRecDepth 100000
set_option maxHeartbeats 1000000
namespace K55
open PySem PySem.Spec PyProof.Rows L2 Gd
variable {P : Program} {w : World} {K : PySem.W.Frag} {mg : Str → Option Value} {base : Heap}
theorem row_sh {ds : List Int} (h1 : ds.length ≤ 7000) (h2 : ∀ x ∈ ds, x.natAbs ≤ 10 ^ 99) : Sh 20 15300000 (rowD ds) := by
  obtain ⟨k1, k2, k3⟩ := row_fn h2
  exact Gd.Fn.sh (M := 10 ^ 99) (k := 20) (n := 8000) ⟨k1, by omega, by omega⟩ big99 (by decide)
theorem fine_tab {n : Nat} {rs : List (List Int)} (h : Fine (tabD n rs)) : ∀ r ∈ rs, ∀ x ∈ r, x.natAbs ≤ 10 ^ 99 := by
  intro r hr x hx
  have h1 : Fine (rowsD rs) := fine_item (ds := [.int n, rowsD rs]) h (by simp)
  have h2 : Fine (rowD r) := fine_item (ds := rs.map rowD) h1 (List.mem_map_of_mem hr)
  have h3 : Fine (.int x) := fine_item (ds := r.map PyData.int) h2 (List.mem_map_of_mem hx)
  have := h3.ok
  simpa only [fok, decide_eq_true_eq] using this
theorem downs_small {n : Nat} {rs : List (List Int)} (hw : ∀ r ∈ rs, r.length = n) (h : ∀ r ∈ rs, ∀ x ∈ r, x.natAbs ≤ 10 ^ 99) : ∀ x ∈ downsM n rs, x.natAbs ≤ 10 ^ 99 := by
  intro x hx
  unfold downsM at hx
  obtain ⟨k, hk, rfl⟩ := List.mem_map.mp hx
  have hk := List.mem_range.mp hk
  have hr := Gd.getD_mem (d := ([] : List Int)) (show k < rs.length by omega)
  exact h _ hr _ (Gd.getD_mem (d := 0) (by rw [hw _ hr]; omega))
theorem div_mul (z c : Int) : divM z (z * c) = true := by
  unfold divM
  by_cases h : z = 0
  · rw [if_pos h, h]
    simp
  · rw [if_neg h, Int.mul_fmod_right]
    rfl
def handA : List PyData := [.none, .bool true, .int 0, .str "", .tuple [], .list [], .tuple [.int 0, .tuple []], .tuple [.int 1, .tuple []], .tuple [.int 1, .tuple [.tuple [.int 0], .tuple [.int 0]]], .tuple [.int 2, .tuple [.tuple [.int 0, .int 0], .tuple [.int 0, .int 0]]], .tuple [.int (-1), .tuple []]]
def handB : List PyData := [.tuple [.bool true, .tuple [.tuple [.bool true]]], .tuple [.int 1, .tuple [.tuple [.bool true]]], .tuple [.int 1, .list [.tuple [.int 1]]], .list [.int 1, .tuple [.tuple [.int 1]]], .tuple [.int 2, .tuple [.tuple [.int 0, .int 0], .tuple [.int 0, .int 1]]]]
theorem handA_fine : ∀ d ∈ handA, Fine d := by
  intro d hd
  simp only [handA, List.mem_cons, List.not_mem_nil, or_false] at hd
  rcases hd with rfl | rfl | rfl | rfl | rfl | rfl | rfl | rfl | rfl | rfl | rfl <;> exact ⟨by decide +kernel, by decide +kernel, by decide +kernel⟩
theorem handB_fine : ∀ d ∈ handB, Fine d := by
  intro d hd
  simp only [handB, List.mem_cons, List.not_mem_nil, or_false] at hd
  rcases hd with rfl | rfl | rfl | rfl | rfl <;> exact ⟨by decide +kernel, by decide +kernel, by decide +kernel⟩
theorem six_at {r : Int} (r0 : 0 ≤ r) (r1 : r < 6) : ∃ z, (0 ≤ z ∧ z ≤ 1000000000) ∧ atI [V.int 1, .int 2, .int 1, .int 6, .int (10 ^ Int.toNat 9), .int 0] r = some (.int z) := by
  have : r = 0 ∨ r = 1 ∨ r = 2 ∨ r = 3 ∨ r = 4 ∨ r = 5 := by omega
  rcases this with rfl | rfl | rfl | rfl | rfl | rfl
  · exact ⟨1, by decide, rfl⟩
  · exact ⟨2, by decide, rfl⟩
  · exact ⟨1, by decide, rfl⟩
  · exact ⟨6, by decide, rfl⟩
  · exact ⟨10 ^ Int.toNat 9, by decide, rfl⟩
  · exact ⟨0, by decide, rfl⟩
theorem pw9 {i : Nat} (h : i ≤ 4) : 10 ^ 50 * (10 ^ 9) ^ i ≤ 10 ^ 96 :=
  Nat.le_trans (Nat.mul_le_mul_left _ (Nat.pow_le_pow_right (by decide) h)) (by decide)
theorem pw_succ (p q i : Nat) : p * q ^ (i + 1) = p * q ^ i * q := by rw [Nat.pow_succ, Nat.mul_assoc]
def spLaw (K : PySem.W.Frag) : Sp := fun vs H Q _ => ∃ (a : Addr) (ns : List Int), vs = [.ref a] ∧ SqL K H a (ns.map V.int) ∧ ns.length ≤ 63 ∧ ∀ H', Q (.bl true) H'
abbrev FnP (K : PySem.W.Frag) (x : Str) (st : Stmt) (f : Addr) (fd : FuncData) : Prop := FunD K x x (defArgs st) (defBody st) (defScope st) [] [] f fd
theorem ok_law {f : Addr} {fd : FuncData} (F : FnP K "law" s_law f fd) (B : Bn mg)
    (h_l_feed : Has P w K mg base "_law_feed" 1 p_l_feed (spFeedX K))
    (h_l_draw : Has P w K mg base "_law_draw" 1 p_l_draw spDrawX)
    (h_l_rounds : Has P w K mg base "_law_rounds" 1 p_l_rounds (spLRounds K))
    (h_is_rounds : Has P w K mg base "is_rounds" 4 p_is_rounds (spIsRounds K))
    (h_downs_of : Has P w K mg base "downs_of" 1 p_downs_of (spDowns K))
    (h_l_bent : Has P w K mg base "_law_bent" 8 p_l_bent (spBentX K 5))
    (h_l_near : Has P w K mg base "_law_near" 2 p_l_near (spNear K))
    (h_l_is_vast : Has P w K mg base "_law_is_vast" 22 p_l_is_vast (spVast K 20))
    (h_l_is_rounds : Has P w K mg base "_law_is_rounds" 2 p_l_is_rounds (spLIsRounds K))
    (h_l_great_right : HasG P w K mg base "_law_great_right" 5 p_l_great_right (spGreat K)) :
    FnG P w K mg base 23 f fd ["_law_script"] (spLaw K) := by
  refine okG (k := 22) F sc_law ?_ ?_
  · rintro vs H Q E ⟨a, ns, rfl, _⟩
    rfl
  rintro cdv A outer s0 H vs Q E hG hr ⟨sc, ns, rfl, hS, hl, k⟩
  refine ⟨_, PSs.nox (pss_cons (ps_asg (pe_has (h_l_feed) (hr.mono (by first | decide | omega)) (by rfl) (pa_cons (pv 0) pa_nil)) (pg_name (i := 1) sc_law.nd rfl (by first | exact Or.inl rfl | exact Or.inr rfl)))
      (pss_cons (ps_for PassesOwn.never rfl (pi_range1 (by rfl) B.range_ (pa_cons pe_int pa_nil)) (pg_name (i := 2) sc_law.nd rfl (by first | exact Or.inl rfl | exact Or.inr rfl)) (pss_cons (ps_par (i := 3) (j := 4) (by rfl) sc_law.nd rfl rfl (by decide) rfl rfl (pa_cons (pe_has (h_l_draw) (hr.mono (by first | decide | omega)) (by rfl) (pa_cons (pv 1) (pa_cons pe_int pa_nil))) (pa_cons (pe_has (h_l_draw) (hr.mono (by first | decide | omega)) (by rfl) (pa_cons (pv 1) (pa_cons pe_int pa_nil))) pa_nil)) (by rfl))
      (pss_cons (ps_asg (pe_lst pa_nil) (pg_name (i := 5) sc_law.nd rfl (by first | exact Or.inl rfl | exact Or.inr rfl)))
      (pss_cons (ps_asg (pe_ix (ix_listK (K := K) (by rfl)) (pe_lst (pa_cons pe_int (pa_cons pe_int (pa_cons pe_int (pa_cons (pe_op op_pow pe_int pe_int) pa_nil))))) (pe_has (h_l_draw) (hr.mono (by first | decide | omega)) (by rfl) (pa_cons (pv 1) (pa_cons pe_int pa_nil))) (fun _ _ => rfl)) (pg_name (i := 6) sc_law.nd rfl (by first | exact Or.inl rfl | exact Or.inr rfl)))
      (pss_cons (ps_for PassesOwn.never rfl (pi_range1 (by rfl) B.range_ (pa_cons (pe_callB (call_min2 (by rfl)) (by rfl) B.min_ (by decide +kernel) (pa_cons (pv 3) (pa_cons (pv 4) pa_nil))) pa_nil)) (pg_name (i := 7) sc_law.nd rfl (by first | exact Or.inl rfl | exact Or.inr rfl)) (pss_cons (ps_expr (pe_bm PySem.F.plainAttrs_list PySem.F.slot_list_append PySem.F.type_list_append mt_append (pv 5) (pa_cons (pv 6) pa_nil)))
      (pss_one (ps_asg (pe_op op_mul (pv 6) (pe_ix (ix_listK (K := K) (by rfl)) (pe_lst (pa_cons pe_int (pa_cons pe_int (pa_cons pe_int (pa_cons pe_int (pa_cons (pe_op op_pow pe_int pe_int) (pa_cons pe_int pa_nil))))))) (pe_has (h_l_draw) (hr.mono (by first | decide | omega)) (by rfl) (pa_cons (pv 1) (pa_cons pe_int pa_nil))) (fun _ _ => rfl))) (pg_name (i := 6) sc_law.nd rfl (by first | exact Or.inl rfl | exact Or.inr rfl))))))
      (pss_cons (ps_asg (pe_has (h_l_rounds) (hr.mono (by first | decide | omega)) (by rfl) (pa_cons (pv 3) (pa_cons (pv 4) (pa_cons (pv 5) pa_nil)))) (pg_name (i := 8) sc_law.nd rfl (by first | exact Or.inl rfl | exact Or.inr rfl)))
      (Evl.pss_cut (ps_if (PW.pt (pw_or (pt_cmpR op_isNotB (pe_has (h_is_rounds) (hr.mono (by first | decide | omega)) (by rfl) (pa_cons (pv 8) pa_nil)) pe_bl (nomark _)) (pw_or1 (pt_cmpR op_ne (pe_callB (call_reprDK (K := K) (by rfl) hG hr.units) (by rfl) B.repr_ (by decide +kernel) (pa_cons (pe_has (h_downs_of) (hr.mono (by first | decide | omega)) (by rfl) (pa_cons (pv 8) pa_nil)) pa_nil)) (pe_callB (call_reprDK (K := K) (by rfl) hG hr.units) (by rfl) B.repr_ (by decide +kernel) (pa_cons (pe_callTy (call_tupleK (K := K) (by rfl)) (by rfl) B.tuple_ (by decide +kernel) (pa_cons (pv 5) pa_nil)) pa_nil)) (nomark _))))) (pss_one (ps_ret pe_bl)) pss_nil)
      (pss_cons (ps_asg (pe_lst (pa_cons (pv 8) (pa_cons pe_non (pa_cons pe_bl (pa_cons pe_int (pa_cons pe_str (pa_cons (pe_tup pa_nil) (pa_cons (pe_lst pa_nil) (pa_cons (pe_tup (pa_cons pe_int (pa_cons (pe_tup pa_nil) pa_nil))) (pa_cons (pe_tup (pa_cons pe_int (pa_cons (pe_tup pa_nil) pa_nil))) (pa_cons (pe_tup (pa_cons pe_int (pa_cons (pe_tup (pa_cons (pe_tup (pa_cons pe_int pa_nil)) (pa_cons (pe_tup (pa_cons pe_int pa_nil)) pa_nil))) pa_nil))) (pa_cons (pe_tup (pa_cons pe_int (pa_cons (pe_tup (pa_cons (pe_tup (pa_cons pe_int (pa_cons pe_int pa_nil))) (pa_cons (pe_tup (pa_cons pe_int (pa_cons pe_int pa_nil))) pa_nil))) pa_nil))) (pa_cons (pe_tup (pa_cons (pe_un un_neg pe_int) (pa_cons (pe_tup pa_nil) pa_nil))) pa_nil))))))))))))) (pg_name (i := 9) sc_law.nd rfl (by first | exact Or.inl rfl | exact Or.inr rfl)))
      (pss_cons (ps_asg (pe_op op_cat (pv 9) (pe_lst (pa_cons (pe_tup (pa_cons pe_bl (pa_cons (pe_tup (pa_cons (pe_tup (pa_cons pe_bl pa_nil)) pa_nil)) pa_nil))) (pa_cons (pe_tup (pa_cons pe_int (pa_cons (pe_tup (pa_cons (pe_tup (pa_cons pe_bl pa_nil)) pa_nil)) pa_nil))) (pa_cons (pe_tup (pa_cons pe_int (pa_cons (pe_lst (pa_cons (pe_tup (pa_cons pe_int pa_nil)) pa_nil)) pa_nil))) (pa_cons (pe_lst (pa_cons pe_int (pa_cons (pe_tup (pa_cons (pe_tup (pa_cons pe_int pa_nil)) pa_nil)) pa_nil))) (pa_cons (pe_tup (pa_cons pe_int (pa_cons (pe_tup (pa_cons (pe_tup (pa_cons pe_int (pa_cons pe_int pa_nil))) (pa_cons (pe_tup (pa_cons pe_int (pa_cons pe_int pa_nil))) pa_nil))) pa_nil))) pa_nil))))))) (pg_name (i := 9) sc_law.nd rfl (by first | exact Or.inl rfl | exact Or.inr rfl)))
      (pss_cons (ps_for PassesOwn.never rfl (pi_range1 (by rfl) B.range_ (pa_cons pe_int pa_nil)) (pg_name (i := 7) sc_law.nd rfl (by first | exact Or.inl rfl | exact Or.inr rfl)) (pss_cons (ps_asg (pe_has (h_l_bent) (hr.mono (by first | decide | omega)) (by rfl) (pa_cons (pv 1) (pa_cons (pv 8) (pa_cons pe_int pa_nil)))) (pg_name (i := 10) sc_law.nd rfl (by first | exact Or.inl rfl | exact Or.inr rfl)))
      (pss_one (ps_asg (pe_op op_cat (pv 9) (pe_lst (pa_cons (pv 10) (pa_cons (pe_has (h_l_bent) (hr.mono (by first | decide | omega)) (by rfl) (pa_cons (pv 1) (pa_cons (pv 10) (pa_cons pe_int pa_nil)))) (pa_cons (pe_has (h_l_near) (hr.mono (by first | decide | omega)) (by rfl) (pa_cons (pv 1) (pa_cons (pv 3) (pa_cons (pv 4) (pa_cons (pv 5) pa_nil))))) pa_nil))))) (pg_name (i := 9) sc_law.nd rfl (by first | exact Or.inl rfl | exact Or.inr rfl))))))
      (pss_one (ps_for PassesOwn.never rfl (pi_listK (K := K) (by rfl) (pe_lc (own := [("_law_one", 15)]) rfl sc_law.nd (pi_listK (K := K) (by rfl) (pv 9)) (blkOk_by (own := [("_law_one", 15)]) (N := n_law) (sc := defScope s_law) (by decide +kernel)) (fun _ _ _ _ _ => (pg_name (i := 15) sc_law.nd rfl (by first | exact Or.inl rfl | exact Or.inr rfl))) (fun _ _ _ _ _ => (pts_one (pt_not (pt_val (pe_has (h_l_is_vast) (hr.mono (by first | decide | omega)) (by rfl) (pa_cons (pv 15) pa_nil)))))) (fun _ _ _ _ _ => (pv 15)))) (pg_name (i := 11) sc_law.nd rfl (by first | exact Or.inl rfl | exact Or.inr rfl)) (pss_cons (ps_asg (pe_callB (call_reprDK (K := K) (by rfl) hG hr.units) (by rfl) B.repr_ (by decide +kernel) (pa_cons (pv 11) pa_nil)) (pg_name (i := 12) sc_law.nd rfl (by first | exact Or.inl rfl | exact Or.inr rfl)))
      (pss_cons (ps_asg (pe_has (h_l_is_rounds) (hr.mono (by first | decide | omega)) (by rfl) (pa_cons (pv 11) pa_nil)) (pg_name (i := 13) sc_law.nd rfl (by first | exact Or.inl rfl | exact Or.inr rfl)))
      (pss_cons (ps_for PassesOwn.never rfl (pi_range1 (by rfl) B.range_ (pa_cons pe_int pa_nil)) (pg_name (i := 14) sc_law.nd rfl (by first | exact Or.inl rfl | exact Or.inr rfl)) (pss_one (ps_if (PW.pt (pw_or (pt_cmpR op_ne (pe_callB (call_reprDK (K := K) (by rfl) hG hr.units) (by rfl) B.repr_ (by decide +kernel) (pa_cons (pe_has (h_is_rounds) (hr.mono (by first | decide | omega)) (by rfl) (pa_cons (pv 11) pa_nil)) pa_nil)) (pe_callB (call_reprDK (K := K) (by rfl) hG hr.units) (by rfl) B.repr_ (by decide +kernel) (pa_cons (pv 13) pa_nil)) (nomark _)) (pw_or1 (pt_cmpR op_ne (pe_callB (call_reprDK (K := K) (by rfl) hG hr.units) (by rfl) B.repr_ (by decide +kernel) (pa_cons (pv 11) pa_nil)) (pv 12) (nomark _))))) (pss_one (ps_ret pe_bl)) pss_nil)))
      (pss_one (ps_if (pt_val (pv 13)) (pss_cons (ps_setLc (i := 5) (own := [("_law_k", 7)]) rfl sc_law.nd rfl rfl (sw_true rfl rfl rfl (by decide +kernel)) (pi_range1 (by rfl) B.range_ (pa_cons (pe_callB (call_min2 (by rfl)) (by rfl) B.min_ (by decide +kernel) (pa_cons (pe_ix (ix_tupK (K := K) (by rfl)) (pv 11) pe_int (fun _ _ => rfl)) (pa_cons (pe_callB (call_lenK (K := K) (by rfl)) (by rfl) B.len_ (by decide +kernel) (pa_cons (pe_ix (ix_tupK (K := K) (by rfl)) (pv 11) pe_int (fun _ _ => rfl)) pa_nil)) pa_nil))) pa_nil)) (blkOk_by (own := [("_law_k", 7)]) (N := n_law) (sc := defScope s_law) (by decide +kernel)) (fun _ _ _ _ _ => (pg_name (i := 7) sc_law.nd rfl (by first | exact Or.inl rfl | exact Or.inr rfl))) (fun _ _ _ _ _ => pts_nil) (fun _ _ _ _ _ => (pe_ix (ix_tupK (K := K) (by rfl)) (pe_ix (ix_tupK (K := K) (by rfl)) (pe_ix (ix_tupK (K := K) (by rfl)) (pv 11) pe_int (fun _ _ => rfl)) (pv 7) (fun _ _ => rfl)) (pv 7) (fun _ _ => rfl))))
      (pss_one (ps_if (pt_cmpR op_ne (pe_callB (call_reprDK (K := K) (by rfl) hG hr.units) (by rfl) B.repr_ (by decide +kernel) (pa_cons (pe_has (h_downs_of) (hr.mono (by first | decide | omega)) (by rfl) (pa_cons (pv 11) pa_nil)) pa_nil)) (pe_callB (call_reprDK (K := K) (by rfl) hG hr.units) (by rfl) B.repr_ (by decide +kernel) (pa_cons (pe_callTy (call_tupleK (K := K) (by rfl)) (by rfl) B.tuple_ (by decide +kernel) (pa_cons (pv 5) pa_nil)) pa_nil)) (nomark _)) (pss_one (ps_ret pe_bl)) pss_nil))) pss_nil)))))))))))))))))
      (pss_one (ps_ret (pe_hasG (h_l_great_right) hG (hr.mono (by first | decide | omega)) (by rfl) (pa_cons (pv 1) pa_nil)))))), ?_⟩
  refine ⟨_, rfl, sc, ns, rfl, hS, hl, fun a s H1 na ns1 e1 f1 => ?_⟩
  refine ⟨2, rfl, by decide, by decide, for_range (lo := 0) (n := 2) (fun i σ H' => ∃ (v2 v3 v4 v5 v6 v7 v8 v9 v10 v11 v12 v13 v14 : Option V), σ = [some (.ref sc), some (.ref a), v2, v3, v4, v5, v6, v7, v8, v9, v10, v11, v12, v13, v14, none] ∧ Fx H' a s (1000 * i)) ?_ ?_ ?_⟩
  · exact ⟨_, _, _, _, _, _, _, _, _, _, _, _, _, rfl, f1⟩
  · clear f1 e1 na ns1 hS
    rintro ii σ H1 hii ⟨v2, v3, v4, v5, v6, v7, v8', v9, v10, v11, v12, v13, v14, rfl, f1⟩
    obtain ⟨N, hN⟩ : ∃ N, N = 1000 * ii := ⟨_, rfl⟩
    rw [← hN] at f1
    refine ⟨_, rfl, a, s, _, N, rfl, f1, by omega, by decide, by decide, fun r2 H2 r20 r21 sb2 f2 => ?_⟩
    refine ⟨_, rfl, a, s, _, N + 1, rfl, f2, by omega, by decide, by decide, fun r3 H3 r30 r31 sb3 f3 => ?_⟩
    obtain ⟨m, rfl⟩ := Int.eq_ofNat_of_zero_le r20
    obtain ⟨wd, rfl⟩ := Int.eq_ofNat_of_zero_le r30
    refine ⟨_, _, rfl, ?_⟩
    refine ⟨Nat.zero_le _, fun l5 nl5 => ?_⟩
    have nla : l5 ≠ a := new_ne f3.nn nl5
    have nls : l5 ≠ s := (f3.apart nl5).2
    have e4 := Same.new (o := .lst []) nl5
    have f4 := f3.same e4
    refine ⟨_, _, rfl, rfl, ⟨by decide, by decide, by decide⟩, by show 4 ≤ sizeLine; decide, fun p5 np5 => ?_⟩
    have e5 := Same.new (o := .lst [.int 1, .int 1, .int 2, .int (10 ^ Int.toNat 50)]) np5
    have f5 := f4.same e5
    have n5 := new_ne f4.nn np5
    refine ⟨_, rfl, a, s, _, N + 2, rfl, f5, by omega, by decide, by decide, fun r6 H6 r60 r61 sb6 f6 => ?_⟩
    have h6 := sb6 _ _ n5 (upd_same (H := upd H3 l5 (.lst [])) (a := p5) (o := .lst [.int 1, .int 1, .int 2, .int (10 ^ Int.toNat 50)]))
    obtain ⟨z0, hz0, hzat⟩ := nth_at (a := 1) (b := 1) (c := 2) (d := 10 ^ Int.toNat 50) r60 r61
    have hz0s : 0 ≤ z0 ∧ z0.natAbs ≤ 10 ^ 50 := by
      simp only [List.mem_cons, List.not_mem_nil, or_false] at hz0
      rcases hz0 with rfl | rfl | rfl | rfl <;> decide
    have hl6 := sb6 _ _ nla (e5 _ _ (upd_same (H := H3) (a := l5) (o := .lst [])))
    refine ⟨p5, _, _, _, rfl, rfl, SqL.of h6, hzat, ?_⟩
    refine ⟨_, rfl, _, rfl, _, _, rfl, ((min m wd : Nat) : Int), ?_, by omega, by omega, for_range (lo := 0) (n := min m wd) (fun i σ H' => ∃ (ds : List Int) (z : Int) (v7 : Option V),
      σ = [some (.ref sc), some (.ref a), some (.int (0 + (ii : Int))), some (.int (m : Int)), some (.int (wd : Int)), some (.ref l5), some (.int z), v7, v8', v9, v10, v11, v12, v13, v14, none] ∧ H' l5 = some (.lst (ds.map V.int)) ∧
      ds.length = i ∧ (∀ x ∈ ds, x.natAbs ≤ 10 ^ 96) ∧ (∀ k, k < i → 0 ≤ ds.getD k 0) ∧ (∀ k, k + 1 < i → divM (ds.getD k 0) (ds.getD (k + 1) 0) = true) ∧ 0 ≤ z ∧ z.natAbs ≤ 10 ^ 50 * (10 ^ 9) ^ i ∧ (∀ k, k + 1 = i → divM (ds.getD k 0) z = true) ∧ Fx H' a s (N + 3 + i)) ?_ ?_ ?_⟩
    · rw [min_nat]
    · exact ⟨[], z0, _, rfl, hl6, rfl, fun x hx => absurd hx (by simp), fun k hk => absurd hk (by omega), fun k hk => absurd hk (by omega), hz0s.1, by simpa using hz0s.2, fun k hk => absurd hk (by omega), f6⟩
    · clear f1 f2 f3 f4 f5 f6 sb2 sb3 sb6 hl6 h6 hzat hz0 e4 e5 np5 nl5
      rintro i σ H7 hi ⟨ds, z, v7', rfl, hl7, hlen, hsm, hpos, hdiv, hz1, hz2, hz3, f7⟩
      have hmx : i ≤ 4 := by omega
      refine ⟨_, rfl, .inl ⟨rfl, _, SqL.of hl7⟩, _, rfl, l5, _, _, rfl, rfl, hl7, ?_, ?_⟩
      · rw [List.length_map, hlen, sizeLine_eq]
        omega
      have f8 := f7.upd (o := .lst (ds.map V.int ++ [.int z])) nla nls
      have hl8 : upd H7 l5 (.lst (ds.map V.int ++ [.int z])) l5 = some (.lst ((ds ++ [z]).map V.int)) := by
        rw [upd_same, List.map_append]
        rfl
      refine ⟨_, rfl, _, _, rfl, rfl, ⟨by decide, by decide, by decide⟩, by show 6 ≤ sizeLine; decide, fun p9 np9 => ?_⟩
      have e9 := Same.new (o := .lst [.int 1, .int 2, .int 1, .int 6, .int (10 ^ Int.toNat 9), .int 0]) np9
      have f9 := f8.same e9
      have n9 := new_ne f8.nn np9
      refine ⟨_, rfl, a, s, _, N + 3 + i, rfl, f9, by omega, by decide, by decide, fun r10 H10 r100 r101 sb10 f10 => ?_⟩
      have h10 := sb10 _ _ n9 (upd_same (H := upd H7 l5 (.lst (ds.map V.int ++ [.int z]))) (a := p9) (o := .lst [.int 1, .int 2, .int 1, .int 6, .int (10 ^ Int.toNat 9), .int 0]))
      obtain ⟨c, ⟨hc0, hc1⟩, hcat⟩ := six_at r100 r101
      refine ⟨p9, _, _, _, rfl, rfl, SqL.of h10, hcat, _, _, rfl, rfl, .inr ⟨by omega, by omega⟩, ?_⟩
      have hl10 := sb10 _ _ nla (e9 _ _ hl8)
      have get1 : ∀ k, k < i → (ds ++ [z]).getD k 0 = ds.getD k 0 := fun k hk => by
        rw [List.getD_eq_getElem?_getD, List.getElem?_append_left (by omega), ← List.getD_eq_getElem?_getD]
      have get2 : (ds ++ [z]).getD i 0 = z := by
        rw [List.getD_eq_getElem?_getD, List.getElem?_append_right (by omega), hlen, Nat.sub_self]
        rfl
      refine ⟨ds ++ [z], z * c, _, rfl, hl10, by rw [List.length_append, hlen]; rfl, fun x hx => ?_, fun k hk => ?_, fun k hk => ?_, Int.mul_nonneg hz1 hc0, ?_, fun k hk => ?_, f10.mono (by omega)⟩
      · rcases List.mem_append.mp hx with h | h
        · exact hsm x h
        · rw [List.mem_singleton.mp h]
          exact Nat.le_trans hz2 (pw9 hmx)
      · by_cases hki : k = i
        · rw [hki, get2]
          exact hz1
        · rw [get1 k (by omega)]
          exact hpos k (by omega)
      · by_cases hki : k + 1 = i
        · rw [get1 k (by omega), hki, get2]
          exact hz3 k hki
        · rw [get1 k (by omega), get1 (k + 1) (by omega)]
          exact hdiv k (by omega)
      · rw [Int.natAbs_mul, pw_succ]
        exact Nat.mul_le_mul hz2 (by omega)
      · rw [show k = i by omega, get2]
        exact div_mul z c
    clear f1 f2 f3 f4 f5 f6 sb2 sb3 sb6 hl6 h6 hzat hz0 e4 e5 np5 nl5 hz0s
    rintro σ H7 ⟨ds, z, v7', rfl, hl7, hlen, hsm, hpos, hdiv, hz1, hz2, hz3, f7⟩
    clear hz1 hz2 hz3
    have f7 : Fx H7 a s (N + 8) := f7.mono (by omega)
    refine ⟨_, rfl, _, rfl, _, rfl, l5, m, wd, ds, rfl, SqL.of hl7, by omega, by omega, by omega, fun v8 H8 e8 hv8 => ?_⟩
    have f8 := f7.same e8
    have hl8 := e8 _ _ hl7
    have hv8 := dp_qx f8 (tabD_tup _ _) hv8
    have hRt : roundsM wd (diagM m wd ds) = true := diag_rounds hpos hdiv
    have hDn : downsM wd (diagM m wd ds) = ds := diag_downs hlen
    have hsmall := diag_small (M := 10 ^ 96) (m := m) (wd := wd) hsm
    have hrl := diagM_len m wd ds
    have hwide : ∀ r ∈ diagM m wd ds, r.length = wd := diag_wide
    generalize diagM m wd ds = rs at hv8 hRt hDn hsmall hrl hwide
    have FG : Fn (10 ^ 96) 3 100 (tabD wd rs) := tab_fn (by omega) hsmall (by
      rw [hrl]
      have : m * (1 + wd) ≤ 5 * 6 := Nat.mul_le_mul (by omega) (by omega)
      omega)
    have sD := row_sh (ds := ds) (by omega) (fun x hx => Nat.le_trans (hsm x hx) (by decide))
    obtain ⟨S1, hS1⟩ : ∃ S1, (rowD ds).shown = S1 := ⟨_, rfl⟩
    refine ⟨fun σ' H' => Same H8 H' ∧ σ' = [some (.ref sc), some (.ref a), some (.int (0 + (ii : Int))), some (.int (m : Int)), some (.int (wd : Int)), some (.ref l5), some (.int z), v7', some v8, v9, v10, v11, v12, v13, v14, none], ?_, ?_⟩
    · refine ⟨_, rfl, v8, _, rfl, hv8.dp, Nat.le_trans FG.sz (by decide), fun H9 e9 => ?_⟩
      rw [isRounds_tab hwide, hRt]
      refine ⟨_, _, rfl, rfl, _, rfl, iteF ?_⟩
      refine ⟨_, rfl, v8, wd, rs, rfl, Dp.same e9 _ _ hv8.dp, by omega, hwide, fun u H10 e10 hu => ?_⟩
      rw [hDn] at hu
      try dsimp only [tC, tNil]
      refine reprD hu sD (by decide) (by decide) hS1 ?_
      refine ⟨_, rfl, l5, _, rfl, .inl ⟨SqL.of (e10 _ _ (e9 _ _ hl8)), fun l11 nl11 => ?_⟩⟩
      have e11 := Same.new (o := .tup (ds.map V.int)) nl11
      try dsimp only [tC, tNil]
      refine reprD (mk_row (r := ds) (SqT.of upd_same)) sD (by decide) (by decide) hS1 ?_
      refine ⟨rfl, _, rfl, ?_⟩
      exact iteNS rfl ⟨e9.trans (e10.trans e11), rfl⟩
    rintro σ' H0 ⟨e0, rfl⟩
    have f0 := f8.same e0
    have hl0 := e0 _ _ hl8
    have hv0 := hv8.same e0
    have na0 := f0.nn
    refine ⟨_, rfl, ?_⟩
    refine ⟨by show 0 ≤ sizeLine; decide, fun p1 np1 => ?_⟩
    obtain ⟨H1, xH1, e1, h1⟩ := tupQ (K := K) na0 np1 .nil
    rw [xH1]
    have na1 := Gd.Same.nn e1 na0
    refine ⟨by show 0 ≤ sizeLine; decide, fun p2 np2 => ?_⟩
    obtain ⟨H2, xH2, e2, g2, b2, l2⟩ := lstQ (K := K) na1 np2 .nil
    rw [xH2]
    have na2 := Gd.Same.nn e2 na1
    have h2 : Dq K a H2 (.ref p2) (.list []) := Dq.lst g2 b2 l2
    refine ⟨by show 0 ≤ sizeLine; decide, fun p3 np3 => ?_⟩
    obtain ⟨H3, xH3, e3, h3⟩ := tupQ (K := K) na2 np3 .nil
    rw [xH3]
    have na3 := Gd.Same.nn e3 na2
    refine ⟨by show 2 ≤ sizeLine; decide, fun p4 np4 => ?_⟩
    obtain ⟨H4, xH4, e4, h4⟩ := tupQ (K := K) na3 np4 (.cons (.int _) (.cons h3 .nil))
    rw [xH4]
    have na4 := Gd.Same.nn e4 na3
    refine ⟨by show 0 ≤ sizeLine; decide, fun p5 np5 => ?_⟩
    obtain ⟨H5, xH5, e5, h5⟩ := tupQ (K := K) na4 np5 .nil
    rw [xH5]
    have na5 := Gd.Same.nn e5 na4
    refine ⟨by show 2 ≤ sizeLine; decide, fun p6 np6 => ?_⟩
    obtain ⟨H6, xH6, e6, h6⟩ := tupQ (K := K) na5 np6 (.cons (.int _) (.cons h5 .nil))
    rw [xH6]
    have na6 := Gd.Same.nn e6 na5
    refine ⟨by show 1 ≤ sizeLine; decide, fun p7 np7 => ?_⟩
    obtain ⟨H7, xH7, e7, h7⟩ := tupQ (K := K) na6 np7 (.cons (.int _) .nil)
    rw [xH7]
    have na7 := Gd.Same.nn e7 na6
    refine ⟨by show 1 ≤ sizeLine; decide, fun p8 np8 => ?_⟩
    obtain ⟨H8, xH8, e8, h8⟩ := tupQ (K := K) na7 np8 (.cons (.int _) .nil)
    rw [xH8]
    have na8 := Gd.Same.nn e8 na7
    refine ⟨by show 2 ≤ sizeLine; decide, fun p9 np9 => ?_⟩
    obtain ⟨H9, xH9, e9, h9⟩ := tupQ (K := K) na8 np9 (.cons (h7.same e8) (.cons h8 .nil))
    rw [xH9]
    have na9 := Gd.Same.nn e9 na8
    refine ⟨by show 2 ≤ sizeLine; decide, fun p10 np10 => ?_⟩
    obtain ⟨H10, xH10, e10, h10⟩ := tupQ (K := K) na9 np10 (.cons (.int _) (.cons h9 .nil))
    rw [xH10]
    have na10 := Gd.Same.nn e10 na9
    refine ⟨by show 2 ≤ sizeLine; decide, fun p11 np11 => ?_⟩
    obtain ⟨H11, xH11, e11, h11⟩ := tupQ (K := K) na10 np11 (.cons (.int _) (.cons (.int _) .nil))
    rw [xH11]
    have na11 := Gd.Same.nn e11 na10
    refine ⟨by show 2 ≤ sizeLine; decide, fun p12 np12 => ?_⟩
    obtain ⟨H12, xH12, e12, h12⟩ := tupQ (K := K) na11 np12 (.cons (.int _) (.cons (.int _) .nil))
    rw [xH12]
    have na12 := Gd.Same.nn e12 na11
    refine ⟨by show 2 ≤ sizeLine; decide, fun p13 np13 => ?_⟩
    obtain ⟨H13, xH13, e13, h13⟩ := tupQ (K := K) na12 np13 (.cons (h11.same e12) (.cons h12 .nil))
    rw [xH13]
    have na13 := Gd.Same.nn e13 na12
    refine ⟨by show 2 ≤ sizeLine; decide, fun p14 np14 => ?_⟩
    obtain ⟨H14, xH14, e14, h14⟩ := tupQ (K := K) na13 np14 (.cons (.int _) (.cons h13 .nil))
    rw [xH14]
    have na14 := Gd.Same.nn e14 na13
    refine ⟨_, rfl, ?_⟩
    refine ⟨by show 0 ≤ sizeLine; decide, fun p15 np15 => ?_⟩
    obtain ⟨H15, xH15, e15, h15⟩ := tupQ (K := K) na14 np15 .nil
    rw [xH15]
    have na15 := Gd.Same.nn e15 na14
    refine ⟨by show 2 ≤ sizeLine; decide, fun p16 np16 => ?_⟩
    obtain ⟨H16, xH16, e16, h16⟩ := tupQ (K := K) na15 np16 (.cons (.int _) (.cons h15 .nil))
    rw [xH16]
    have na16 := Gd.Same.nn e16 na15
    refine ⟨by show 12 ≤ sizeLine; decide, fun p17 np17 => ?_⟩
    obtain ⟨H17, xH17, e17, g17, b17, l17⟩ := lstQ (K := K) na16 np17 (.cons (hv0.same (((((((((((((((e1.trans e2).trans e3).trans e4).trans e5).trans e6).trans e7).trans e8).trans e9).trans e10).trans e11).trans e12).trans e13).trans e14).trans e15).trans e16)) (.cons .non (.cons (.bl _) (.cons (.int _) (.cons (.str _) (.cons (h1.same ((((((((((((((e2.trans e3).trans e4).trans e5).trans e6).trans e7).trans e8).trans e9).trans e10).trans e11).trans e12).trans e13).trans e14).trans e15).trans e16)) (.cons (h2.same (((((((((((((e3.trans e4).trans e5).trans e6).trans e7).trans e8).trans e9).trans e10).trans e11).trans e12).trans e13).trans e14).trans e15).trans e16)) (.cons (h4.same (((((((((((e5.trans e6).trans e7).trans e8).trans e9).trans e10).trans e11).trans e12).trans e13).trans e14).trans e15).trans e16)) (.cons (h6.same (((((((((e7.trans e8).trans e9).trans e10).trans e11).trans e12).trans e13).trans e14).trans e15).trans e16)) (.cons (h10.same (((((e11.trans e12).trans e13).trans e14).trans e15).trans e16)) (.cons (h14.same (e15.trans e16)) (.cons h16 .nil))))))))))))
    rw [xH17]
    have na17 := Gd.Same.nn e17 na16
    have h17 : Dq K a H17 (.ref p17) (.list [tabD (wd : Int) rs, .none, .bool true, .int 0, .str "", .tuple [], .list [], .tuple [.int 0, .tuple []], .tuple [.int 1, .tuple []], .tuple [.int 1, .tuple [.tuple [.int 0], .tuple [.int 0]]], .tuple [.int 2, .tuple [.tuple [.int 0, .int 0], .tuple [.int 0, .int 0]]], .tuple [.int (-1), .tuple []]]) := Dq.lst g17 b17 l17
    refine ⟨_, rfl, ?_⟩
    refine ⟨by show 1 ≤ sizeLine; decide, fun p18 np18 => ?_⟩
    obtain ⟨H18, xH18, e18, h18⟩ := tupQ (K := K) na17 np18 (.cons (.bl _) .nil)
    rw [xH18]
    have na18 := Gd.Same.nn e18 na17
    refine ⟨by show 1 ≤ sizeLine; decide, fun p19 np19 => ?_⟩
    obtain ⟨H19, xH19, e19, h19⟩ := tupQ (K := K) na18 np19 (.cons h18 .nil)
    rw [xH19]
    have na19 := Gd.Same.nn e19 na18
    refine ⟨by show 2 ≤ sizeLine; decide, fun p20 np20 => ?_⟩
    obtain ⟨H20, xH20, e20, h20⟩ := tupQ (K := K) na19 np20 (.cons (.bl _) (.cons h19 .nil))
    rw [xH20]
    have na20 := Gd.Same.nn e20 na19
    refine ⟨by show 1 ≤ sizeLine; decide, fun p21 np21 => ?_⟩
    obtain ⟨H21, xH21, e21, h21⟩ := tupQ (K := K) na20 np21 (.cons (.bl _) .nil)
    rw [xH21]
    have na21 := Gd.Same.nn e21 na20
    refine ⟨by show 1 ≤ sizeLine; decide, fun p22 np22 => ?_⟩
    obtain ⟨H22, xH22, e22, h22⟩ := tupQ (K := K) na21 np22 (.cons h21 .nil)
    rw [xH22]
    have na22 := Gd.Same.nn e22 na21
    refine ⟨by show 2 ≤ sizeLine; decide, fun p23 np23 => ?_⟩
    obtain ⟨H23, xH23, e23, h23⟩ := tupQ (K := K) na22 np23 (.cons (.int _) (.cons h22 .nil))
    rw [xH23]
    have na23 := Gd.Same.nn e23 na22
    refine ⟨by show 1 ≤ sizeLine; decide, fun p24 np24 => ?_⟩
    obtain ⟨H24, xH24, e24, h24⟩ := tupQ (K := K) na23 np24 (.cons (.int _) .nil)
    rw [xH24]
    have na24 := Gd.Same.nn e24 na23
    refine ⟨by show 1 ≤ sizeLine; decide, fun p25 np25 => ?_⟩
    obtain ⟨H25, xH25, e25, g25, b25, l25⟩ := lstQ (K := K) na24 np25 (.cons h24 .nil)
    rw [xH25]
    have na25 := Gd.Same.nn e25 na24
    have h25 : Dq K a H25 (.ref p25) (.list [.tuple [.int 1]]) := Dq.lst g25 b25 l25
    refine ⟨by show 2 ≤ sizeLine; decide, fun p26 np26 => ?_⟩
    obtain ⟨H26, xH26, e26, h26⟩ := tupQ (K := K) na25 np26 (.cons (.int _) (.cons h25 .nil))
    rw [xH26]
    have na26 := Gd.Same.nn e26 na25
    refine ⟨by show 1 ≤ sizeLine; decide, fun p27 np27 => ?_⟩
    obtain ⟨H27, xH27, e27, h27⟩ := tupQ (K := K) na26 np27 (.cons (.int _) .nil)
    rw [xH27]
    have na27 := Gd.Same.nn e27 na26
    refine ⟨by show 1 ≤ sizeLine; decide, fun p28 np28 => ?_⟩
    obtain ⟨H28, xH28, e28, h28⟩ := tupQ (K := K) na27 np28 (.cons h27 .nil)
    rw [xH28]
    have na28 := Gd.Same.nn e28 na27
    refine ⟨by show 2 ≤ sizeLine; decide, fun p29 np29 => ?_⟩
    obtain ⟨H29, xH29, e29, g29, b29, l29⟩ := lstQ (K := K) na28 np29 (.cons (.int _) (.cons h28 .nil))
    rw [xH29]
    have na29 := Gd.Same.nn e29 na28
    have h29 : Dq K a H29 (.ref p29) (.list [.int 1, .tuple [.tuple [.int 1]]]) := Dq.lst g29 b29 l29
    refine ⟨by show 2 ≤ sizeLine; decide, fun p30 np30 => ?_⟩
    obtain ⟨H30, xH30, e30, h30⟩ := tupQ (K := K) na29 np30 (.cons (.int _) (.cons (.int _) .nil))
    rw [xH30]
    have na30 := Gd.Same.nn e30 na29
    refine ⟨by show 2 ≤ sizeLine; decide, fun p31 np31 => ?_⟩
    obtain ⟨H31, xH31, e31, h31⟩ := tupQ (K := K) na30 np31 (.cons (.int _) (.cons (.int _) .nil))
    rw [xH31]
    have na31 := Gd.Same.nn e31 na30
    refine ⟨by show 2 ≤ sizeLine; decide, fun p32 np32 => ?_⟩
    obtain ⟨H32, xH32, e32, h32⟩ := tupQ (K := K) na31 np32 (.cons (h30.same e31) (.cons h31 .nil))
    rw [xH32]
    have na32 := Gd.Same.nn e32 na31
    refine ⟨by show 2 ≤ sizeLine; decide, fun p33 np33 => ?_⟩
    obtain ⟨H33, xH33, e33, h33⟩ := tupQ (K := K) na32 np33 (.cons (.int _) (.cons h32 .nil))
    rw [xH33]
    have na33 := Gd.Same.nn e33 na32
    refine ⟨by show 5 ≤ sizeLine; decide, fun p34 np34 => ?_⟩
    obtain ⟨H34, xH34, e34, g34, b34, l34⟩ := lstQ (K := K) na33 np34 (.cons (h20.same ((((((((((((e21.trans e22).trans e23).trans e24).trans e25).trans e26).trans e27).trans e28).trans e29).trans e30).trans e31).trans e32).trans e33)) (.cons (h23.same (((((((((e24.trans e25).trans e26).trans e27).trans e28).trans e29).trans e30).trans e31).trans e32).trans e33)) (.cons (h26.same ((((((e27.trans e28).trans e29).trans e30).trans e31).trans e32).trans e33)) (.cons (h29.same (((e30.trans e31).trans e32).trans e33)) (.cons h33 .nil)))))
    rw [xH34]
    have na34 := Gd.Same.nn e34 na33
    have h34 : Dq K a H34 (.ref p34) (.list [.tuple [.bool true, .tuple [.tuple [.bool true]]], .tuple [.int 1, .tuple [.tuple [.bool true]]], .tuple [.int 1, .list [.tuple [.int 1]]], .list [.int 1, .tuple [.tuple [.int 1]]], .tuple [.int 2, .tuple [.tuple [.int 0, .int 0], .tuple [.int 0, .int 1]]]]) := Dq.lst g34 b34 l34
    refine ⟨_, _, _, _, rfl, rfl, ((((((((((((((((e18.trans e19).trans e20).trans e21).trans e22).trans e23).trans e24).trans e25).trans e26).trans e27).trans e28).trans e29).trans e30).trans e31).trans e32).trans e33).trans e34) _ _ g17, g34, by show 17 ≤ sizeLine; decide, fun p35 np35 => ?_⟩
    obtain ⟨H35, xH35, e35, g35, b35, l35⟩ := lstQ (K := K) na34 np35 (dpa_append _ _ _ _ (l17.same ((((((((((((((((e18.trans e19).trans e20).trans e21).trans e22).trans e23).trans e24).trans e25).trans e26).trans e27).trans e28).trans e29).trans e30).trans e31).trans e32).trans e33).trans e34)) l34)
    rw [xH35]
    have eA : Same H0 H35 := ((((((((((((((((((((((((((((((((((e1.trans e2).trans e3).trans e4).trans e5).trans e6).trans e7).trans e8).trans e9).trans e10).trans e11).trans e12).trans e13).trans e14).trans e15).trans e16).trans e17).trans e18).trans e19).trans e20).trans e21).trans e22).trans e23).trans e24).trans e25).trans e26).trans e27).trans e28).trans e29).trans e30).trans e31).trans e32).trans e33).trans e34).trans e35)
    have f35 := f0.same eA
    have hl35 := eA _ _ hl0
    have hv35 := hv0.same eA
    have l35 : DqAll K a H35 _ ((tabD (wd : Int) rs :: handA) ++ handB) := l35
    have hFt : ∀ d ∈ (tabD (wd : Int) rs :: handA) ++ handB, Fine d := by
      intro d hd
      rcases List.mem_append.mp hd with h | h
      · rcases List.mem_cons.mp h with rfl | h
        · exact FG.mono (by decide) (by decide) (by decide)
        · exact handA_fine d h
      · exact handB_fine d h
    refine ⟨4, rfl, by decide, by decide, for_range (lo := 0) (n := 4) (fun i σ H' => ∃ (l9 : Addr) (xs : List V) (es : List PyData) (w7 w10 : Option V),
      σ = [some (.ref sc), some (.ref a), some (.int (0 + (ii : Int))), some (.int (m : Int)), some (.int (wd : Int)), some (.ref l5), some (.int z), w7, some v8, some (.ref l9), w10, v11, v12, v13, v14, none] ∧ H' l9 = some (.lst xs) ∧ l9 ≠ a ∧ DqAll K a H' xs es ∧ (∀ d ∈ es, Fine d) ∧ es.length = 17 + 3 * i ∧
      H' l5 = some (.lst (ds.map V.int)) ∧ Dq K a H' v8 (tabD wd rs) ∧ Fx H' a s (N + 8 + 130 * i)) ?_ ?_ ?_⟩
    · exact ⟨p35, _, _, _, _, rfl, g35, b35, l35, hFt, rfl, hl35, hv35, f35⟩
    · rintro i σ H1 hi ⟨l9, xs, es, w7, w10, rfl, h1, n1, q1, F1, len1, hl1, hv1, f1⟩
      refine ⟨_, rfl, _, rfl, a, s, v8, _, N + 8 + 130 * i, 10 ^ 96, 100, 3, 4, rfl, by decide, f1, by omega, by decide, hv1, FG, by decide, by decide, by decide, by decide, fun v2 H2 d2 sb2 f2 hv2 F2 => ?_⟩
      refine ⟨_, rfl, _, rfl, _, rfl, _, rfl, a, s, v2, d2, _, 2 * 10 ^ 96, 1200, 6, 4, rfl, by decide, f2, by omega, by decide, hv2, F2, by decide, by decide, by decide, by decide, fun v3 H3 d3 sb3 f3 hv3 F3 => ?_⟩
      have hl3 := sb3 _ _ nla (sb2 _ _ nla hl1)
      refine ⟨_, rfl, _, rfl, _, rfl, _, rfl, a, s, l5, m, wd, _, ds, rfl, f3, by omega, hl3, nla, by omega, by omega, hlen, hsm, fun v4 H4 rs4 sb4 f4 hv4 F4 => ?_⟩
      have sb14 := (sb2.trans sb3).trans sb4
      refine ⟨by show 3 ≤ sizeLine; decide, fun p5 np5 => ?_⟩
      obtain ⟨H5, xH5, e5, h5, n5, l5'⟩ := lstQ (K := K) f4.nn np5 (.cons (Dq.sb (Dq.sb hv2 sb3) sb4) (.cons (Dq.sb hv3 sb4) (.cons hv4 .nil)))
      rw [xH5]
      have f5 := f4.same e5
      have sb15 := sb14.trans (Sb.of (a := a) e5)
      have hxl : xs.length = es.length := dpa_len _ _ q1
      refine ⟨l9, p5, _, _, rfl, rfl, sb15 _ _ n1 h1, h5, Nat.le_trans (show xs.length + 3 ≤ 1000 by omega) (by decide), fun p6 np6 => ?_⟩
      obtain ⟨H6, xH6, e6, h6, n6, l6⟩ := lstQ (K := K) f5.nn np6 (dpa_append _ _ _ _ (DqAll.sb q1 sb15) l5')
      rw [xH6]
      have sb16 := sb15.trans (Sb.of (a := a) e6)
      refine ⟨p6, _, _, _, _, rfl, h6, n6, l6, ?_, ?_, sb16 _ _ nla hl1, Dq.sb hv1 sb16, (f5.same e6).mono (by omega)⟩
      · intro d hd
        rcases List.mem_append.mp hd with h | h
        · exact F1 d h
        · simp only [List.mem_cons, List.not_mem_nil, or_false] at h
          rcases h with rfl | rfl | rfl
          · exact F2.mono (by decide) (by decide) (by decide)
          · exact F3.mono (by decide) (by decide) (by decide)
          · exact F4.mono (by decide) (by decide) (by decide)
      · rw [List.length_append, len1]
        simp only [List.length_cons, List.length_nil]
        omega
    · rintro σ H1 ⟨l9, xs, es, w7, w10, rfl, h1, n1, q1, F1, len1, hl1, hv1, f1⟩
      have hxl : xs.length = es.length := dpa_len _ _ q1
      have q1 := q1.dp
      refine ⟨_, rfl, l9, rfl, ⟨_, SqL.of h1⟩, fun D2 hD2 => ?_⟩
      refine lcG (K := K) (a := l9) (xs := xs) (fun i H2 => Same H1 H2 ∧ ∃ (ys : List V) (ds2 : List PyData), H2 D2 = some (.lst ys) ∧ DpAll K H1 ys ds2 ∧ (∀ d ∈ ds2, Fine d) ∧ ds2.length ≤ i) ?_ ?_ ?_ ?_
      · exact ⟨Same.new hD2, [], [], upd_same, .nil, (fun d hd => absurd hd (by simp)), Nat.le_refl _⟩
      · rintro i H2 _ ⟨e2, _⟩
        exact SqL.of (e2 _ _ h1)
      · rintro i x H2 hxi ⟨e2, ys, ds2, h2, d2, F2, len2⟩
        obtain ⟨d, hd1, hd2⟩ := dpa_get _ _ i x q1 hxi
        have hFd := F1 d (List.mem_of_getElem? hd1)
        have hi := (List.getElem?_eq_some_iff.mp hxi).1
        refine ⟨rfl, ?_⟩
        refine ⟨_, rfl, x, d, 10 ^ 99, 3999, rfl, Dp.same e2 _ _ hd2, hFd, big99, by decide, by decide, fun b H3 e3 => ⟨_, rfl, ?_⟩⟩
        have e23 := e2.trans e3
        cases b with
        | true => exact iteF ⟨e23, ys, ds2, e3 _ _ h2, d2, F2, by omega⟩
        | false =>
          refine iteT ⟨_, rfl, ys, e3 _ _ h2, ?_, Gd.Same.put e23 hD2, ys ++ [x], ds2 ++ [d], upd_same, dpa_snoc _ _ _ _ d2 hd2, ?_, ?_⟩
          · rw [dpa_len _ _ d2, sizeLine_eq]
            omega
          · intro d' hd'
            rcases List.mem_append.mp hd' with h | h
            · exact F2 d' h
            · rw [List.mem_singleton.mp h]
              exact hFd
          · rw [List.length_append]
            simp only [List.length_cons, List.length_nil]
            omega
      · rintro H2 ⟨e2, ys, ds2, h2, d2, F2, len2⟩
        refine ⟨D2, rfl, ⟨_, SqL.of h2⟩, for_list (K := K) (xs := ys) (fun i σ H' => Same H2 H' ∧ ∃ (w5 w7 w11 w12 w13 w14 : Option V),
          σ = [some (.ref sc), some (.ref a), some (.int (0 + (ii : Int))), some (.int (m : Int)), some (.int (wd : Int)), w5, some (.int z), w7, some v8, some (.ref l9), w10, w11, w12, w13, w14, none]) ?_ ?_ ?_ ?_⟩
        · exact ⟨Same.refl _, _, _, _, _, _, _, rfl⟩
        · rintro i σ H3 _ ⟨e3, _⟩
          exact SqL.of (e3 _ _ h2)
        · rintro i x σ H3 hxi ⟨e3, w5, w7, w11, w12, w13, w14, rfl⟩
          obtain ⟨d, hd1, hd2⟩ := dpa_get _ _ i x d2 hxi
          have hF := F2 d (List.mem_of_getElem? hd1)
          have hd3 := Dp.same (e2.trans e3) _ _ hd2
          have sd := Fn.fineSh hF
          obtain ⟨S1, hS1⟩ : ∃ S1, d.shown = S1 := ⟨_, rfl⟩
          obtain ⟨S2, hS2⟩ : ∃ S2, (PyData.bool (isRoundsD d)).shown = S2 := ⟨_, rfl⟩
          refine ⟨_, rfl, ?_⟩
          try dsimp only [tC, tNil]
          refine reprD hd3 sd (by decide) (by decide) hS1 ?_
          refine ⟨_, rfl, x, d, rfl, hd3, hF, fun H4 e4 => ?_⟩
          refine ⟨2, rfl, by decide, by decide, for_range (lo := 0) (n := 2) (fun i σ H' => Same H4 H' ∧ ∃ w14 : Option V,
            σ = [some (.ref sc), some (.ref a), some (.int (0 + (ii : Int))), some (.int (m : Int)), some (.int (wd : Int)), w5, some (.int z), w7, some v8, some (.ref l9), w10, some x, some (.str S1), some (.bl (isRoundsD d)), w14, none]) ?_ ?_ ?_⟩
          · exact ⟨Same.refl _, _, rfl⟩
          · rintro j σ H5 hj ⟨e5, w14', rfl⟩
            have hd5 := Dp.same (e4.trans e5) _ _ hd3
            refine ⟨_, rfl, x, d, rfl, hd5, hF.sz, fun H6 e6 => ?_⟩
            try dsimp only [tC, tNil]
            refine reprD (.bl _) (sh_one _) (by decide) (by decide) hS2 ?_
            refine ⟨_, rfl, ?_⟩
            try dsimp only [tC, tNil]
            refine reprD (.bl _) (sh_one _) (by decide) (by decide) hS2 ?_
            refine ⟨rfl, _, rfl, iteNS rfl ?_⟩
            refine ⟨_, rfl, ?_⟩
            try dsimp only [tC, tNil]
            refine reprD (Dp.same e6 _ _ hd5) sd (by decide) (by decide) hS1 ?_
            refine ⟨_, rfl, rfl, _, rfl, ?_⟩
            exact iteNS rfl ⟨e5.trans e6, _, rfl⟩
          · rintro σ H5 ⟨e5, w14', rfl⟩
            have hd5 := Dp.same (e4.trans e5) _ _ hd3
            have e35 := e3.trans (e4.trans e5)
            refine ⟨_, rfl, _, rfl, ?_⟩
            cases hb : isRoundsD d with
            | false =>
              exact iteF ⟨e35, _, _, _, _, _, _, rfl⟩
            | true =>
              refine iteT ?_
              have hT : isTabD d = true := by
                unfold isRoundsD at hb
                rw [Bool.and_eq_true] at hb
                exact hb.1
              obtain ⟨n', rs', rfl, hw⟩ := tab_true hT
              obtain ⟨hl1', hl2'⟩ := tab_fz hF.sz
              have hsz := downs_small hw (fine_tab hF)
              have hdl := downsM_len n' rs'
              have sD := row_sh (ds := downsM n' rs') (by omega) hsz
              obtain ⟨S3, hS3⟩ : ∃ S3, (rowD (downsM n' rs')).shown = S3 := ⟨_, rfl⟩
              obtain ⟨pt, ur, rfl, htab, hrows⟩ := dp_tab hd5
              obtain ⟨pr, ys7, rfl, hxs, hall, hlen7⟩ := dp_rows hrows
              refine ⟨_, rfl, pt, _, 0, _, rfl, rfl, htab, rfl, _, rfl, pt, _, 1, _, rfl, rfl, htab, rfl, pr, _, rfl, .inr hxs, _, _, rfl, ((min n' rs'.length : Nat) : Int), ?_, by omega, by omega, fun D3 hD3 => ?_⟩
              · rw [hlen7, min_nat]
              refine lcGr (lo := 0) (n := min n' rs'.length) (fun i H' => Same H5 H' ∧ H' D3 = some (.lst ((((List.range i).map fun k => (rs'.getD k []).getD k 0)).map V.int))) ?_ ?_ ?_
              · exact ⟨Same.new hD3, upd_same⟩
              · rintro j H6 hj ⟨e6, h6⟩
                have hj1 : j < rs'.length := by omega
                have hj2 : j < n' := by omega
                obtain ⟨y, hy, hdy⟩ := dpa_at _ _ j _ hall (rows_getD hj1)
                obtain ⟨p, rfl, hp⟩ := dp_row hdy
                have hrl' := hw _ (Gd.getD_mem (d := []) hj1)
                refine ⟨rfl, ?_⟩
                unfold tYes
                dsimp only
                rw [if_pos rfl]
                have ej : (0 : Int) + (j : Int) = ((j : Nat) : Int) := by omega
                rw [ej]
                refine ⟨_, rfl, pt, _, 1, _, rfl, rfl, sqt_same e6 htab, rfl, _, rfl, pr, ys7, _, .ref p, rfl, rfl, sqt_same e6 hxs, atI_nat hy, _, rfl, p, _, _, .int ((rs'.getD j []).getD j 0), rfl, rfl, sqt_same e6 hp, atI_nat (int_at (by omega)), ?_⟩
                refine ⟨_, h6, ?_, Gd.Same.put e6 hD3, ?_⟩
                · rw [List.length_map, List.length_map, List.length_range, sizeLine_eq]
                  omega
                · rw [upd_same, List.range_succ, List.map_append, List.map_append]
                  rfl
              · rintro H6 ⟨e6, h6⟩
                have h6 : H6 D3 = some (.lst ((downsM n' rs').map V.int)) := h6
                refine ⟨_, rfl, _, n', rs', rfl, Dp.same e6 _ _ hd5, by omega, hw, fun u H7 e7 hu => ?_⟩
                try dsimp only [tC, tNil]
                refine reprD hu sD (by decide) (by decide) hS3 ?_
                refine ⟨_, rfl, D3, _, rfl, .inl ⟨SqL.of (e7 _ _ h6), fun l8 nl8 => ?_⟩⟩
                have e8 := Same.new (o := .tup ((downsM n' rs').map V.int)) nl8
                try dsimp only [tC, tNil]
                refine reprD (mk_row (r := downsM n' rs') (SqT.of upd_same)) sD (by decide) (by decide) hS3 ?_
                refine ⟨rfl, _, rfl, ?_⟩
                exact iteNS rfl ⟨e35.trans (e6.trans (e7.trans e8)), _, _, _, _, _, _, rfl⟩
        · rintro σ H3 ⟨e3, w5, w7, w11, w12, w13, w14, rfl⟩
          exact ⟨_, _, _, _, _, _, _, _, _, _, _, _, _, rfl, ((f1.same (e2.trans e3)).mono (by omega))⟩
  · rintro σ H9 ⟨v2, v3, v4, v5, v6, v7, v8, v9, v10, v11, v12, v13, v14, rfl, f9⟩
    exact ⟨_, rfl, a, s, 2000, rfl, f9, by decide, fun H' => k H'⟩

def d_is_number : He.DefD := ⟨("is_number", none), "is_number", "is_number", defArgs s_is_number, defBody s_is_number, defScope s_is_number, [], []⟩
def d_is_row : He.DefD := ⟨("is_row", none), "is_row", "is_row", defArgs s_is_row, defBody s_is_row, defScope s_is_row, [], []⟩
def d_is_table : He.DefD := ⟨("is_table", none), "is_table", "is_table", defArgs s_is_table, defBody s_is_table, defScope s_is_table, [], []⟩
def d_divides : He.DefD := ⟨("divides", none), "divides", "divides", defArgs s_divides, defBody s_divides, defScope s_divides, [], []⟩
def d_are_downs : He.DefD := ⟨("are_downs", none), "are_downs", "are_downs", defArgs s_are_downs, defBody s_are_downs, defScope s_are_downs, [], []⟩
def d_is_bare : He.DefD := ⟨("is_bare", none), "is_bare", "is_bare", defArgs s_is_bare, defBody s_is_bare, defScope s_is_bare, [], []⟩
def d_downs_of : He.DefD := ⟨("downs_of", none), "downs_of", "downs_of", defArgs s_downs_of, defBody s_downs_of, defScope s_downs_of, [], []⟩
def d_is_rounds : He.DefD := ⟨("is_rounds", none), "is_rounds", "is_rounds", defArgs s_is_rounds, defBody s_is_rounds, defScope s_is_rounds, [], []⟩
def d_l_feed : He.DefD := ⟨("_law_feed", none), "_law_feed", "_law_feed", defArgs s_l_feed, defBody s_l_feed, defScope s_l_feed, [], []⟩
def d_l_draw : He.DefD := ⟨("_law_draw", none), "_law_draw", "_law_draw", defArgs s_l_draw, defBody s_l_draw, defScope s_l_draw, [], []⟩
def d_l_rounds : He.DefD := ⟨("_law_rounds", none), "_law_rounds", "_law_rounds", defArgs s_l_rounds, defBody s_l_rounds, defScope s_l_rounds, [], []⟩
def d_l_is_table : He.DefD := ⟨("_law_is_table", none), "_law_is_table", "_law_is_table", defArgs s_l_is_table, defBody s_l_is_table, defScope s_l_is_table, [], []⟩
def d_l_is_rounds : He.DefD := ⟨("_law_is_rounds", none), "_law_is_rounds", "_law_is_rounds", defArgs s_l_is_rounds, defBody s_l_is_rounds, defScope s_l_is_rounds, [], []⟩
def d_l_bent : He.DefD := ⟨("_law_bent", none), "_law_bent", "_law_bent", defArgs s_l_bent, defBody s_l_bent, defScope s_l_bent, [], []⟩
def d_l_near : He.DefD := ⟨("_law_near", none), "_law_near", "_law_near", defArgs s_l_near, defBody s_l_near, defScope s_l_near, [], []⟩
def d_l_great_right : He.DefD := ⟨("_law_great_right", none), "_law_great_right", "_law_great_right", defArgs s_l_great_right, defBody s_l_great_right, defScope s_l_great_right, [], []⟩
def d_l_is_vast : He.DefD := ⟨("_law_is_vast", none), "_law_is_vast", "_law_is_vast", defArgs s_l_is_vast, defBody s_l_is_vast, defScope s_l_is_vast, [], []⟩
def d_law : He.DefD := ⟨("law", none), "law", "law", defArgs s_law, defBody s_law, defScope s_law, [], []⟩
def fnL : List He.DefD := [d_is_number, d_is_row, d_is_table, d_divides, d_are_downs, d_is_bare, d_downs_of, d_is_rounds, d_l_feed, d_l_draw, d_l_rounds, d_l_is_table, d_l_is_rounds, d_l_bent, d_l_near, d_l_great_right, d_l_is_vast, d_law]
def faL : List He.Fa := [.glo "is_number", .glo "is_row", .glo "is_table", .glo "divides", .glo "are_downs", .glo "is_bare", .glo "downs_of", .glo "is_rounds", .glo "_law_feed", .glo "_law_draw", .glo "_law_rounds", .glo "_law_is_table", .glo "_law_is_rounds", .glo "_law_bent", .glo "_law_near", .glo "_law_great_right", .glo "_law_is_vast", .glo "law", .free "isinstance", .free "int", .free "bool", .free "all", .free "tuple", .free "len", .free "any", .free "enumerate", .free "range", .free "min", .free "list", .free "abs", .free "str", .free "max", .free "repr"]
abbrev Rw : PySem.W.OpenRow := PySem.W.OpenLaw.row PySem.Challenge.rw_stepforms_k55_rounds_by_kind
abbrev hk : PySem.W.Hook := He.hookD 4 faL fnL
def ob (s : PySem.W.SharedT) : He.AlD := He.obsDG 4 faL fnL (HandSHeadRun.getT s)
theorem ob_eq (s : PySem.W.SharedT) : ob s = hk.obs s.abs := He.obsDG_eq (HandSHeadRun.getT_eq s)
abbrev loose : List Str := (["is_number", "is_row", "is_table", "divides", "are_downs", "is_bare", "downs_of", "is_rounds", "_law_feed", "_law_draw", "_law_rounds", "_law_is_table", "_law_is_rounds", "_law_bent", "_law_near", "_law_great_right", "_law_is_vast"] : List Str)
theorem run (w : World) : HandSHeadRun.RunEq Rw (PySem.W.view Rw.prog [21]) hk ob 2000 loose w := by
  intro os
  kernel_rfl
theorem facts {P : Program} {w : World} {K : PySem.W.Frag} {h : Heap} {mg : Str → Option Value} {f : Addr}
    (X : K.In h) (G : h.Ns mainGlobals mg) (hfa : mg ("law" : Str) = some (.ref f)) (c : He.SaysD faL fnL K) :
    ∃ fd : FuncData, (∀ (s : Shared) (v : Value), BindsTo s fd ⟨[v], []⟩ [("_law_script", v)]) ∧
      ∀ base : Heap, K.In base → base.Ns mainGlobals mg →
        FnG P w K mg base 23 f fd ["_law_script"] (spLaw K) := by
  obtain ⟨fd0, F0⟩ := c.def_ 0 (d := d_is_number) rfl
  have D0 : Df K mg "is_number" s_is_number := ⟨_, _, F0, He.glo_ok X G (c.fact 0 (f := .glo "is_number") rfl)⟩
  obtain ⟨fd1, F1⟩ := c.def_ 1 (d := d_is_row) rfl
  have D1 : Df K mg "is_row" s_is_row := ⟨_, _, F1, He.glo_ok X G (c.fact 1 (f := .glo "is_row") rfl)⟩
  obtain ⟨fd2, F2⟩ := c.def_ 2 (d := d_is_table) rfl
  have D2 : Df K mg "is_table" s_is_table := ⟨_, _, F2, He.glo_ok X G (c.fact 2 (f := .glo "is_table") rfl)⟩
  obtain ⟨fd3, F3⟩ := c.def_ 3 (d := d_divides) rfl
  have D3 : Df K mg "divides" s_divides := ⟨_, _, F3, He.glo_ok X G (c.fact 3 (f := .glo "divides") rfl)⟩
  obtain ⟨fd4, F4⟩ := c.def_ 4 (d := d_are_downs) rfl
  have D4 : Df K mg "are_downs" s_are_downs := ⟨_, _, F4, He.glo_ok X G (c.fact 4 (f := .glo "are_downs") rfl)⟩
  obtain ⟨fd5, F5⟩ := c.def_ 5 (d := d_is_bare) rfl
  have D5 : Df K mg "is_bare" s_is_bare := ⟨_, _, F5, He.glo_ok X G (c.fact 5 (f := .glo "is_bare") rfl)⟩
  obtain ⟨fd6, F6⟩ := c.def_ 6 (d := d_downs_of) rfl
  have D6 : Df K mg "downs_of" s_downs_of := ⟨_, _, F6, He.glo_ok X G (c.fact 6 (f := .glo "downs_of") rfl)⟩
  obtain ⟨fd7, F7⟩ := c.def_ 7 (d := d_is_rounds) rfl
  have D7 : Df K mg "is_rounds" s_is_rounds := ⟨_, _, F7, He.glo_ok X G (c.fact 7 (f := .glo "is_rounds") rfl)⟩
  obtain ⟨fd8, F8⟩ := c.def_ 8 (d := d_l_feed) rfl
  have D8 : Df K mg "_law_feed" s_l_feed := ⟨_, _, F8, He.glo_ok X G (c.fact 8 (f := .glo "_law_feed") rfl)⟩
  obtain ⟨fd9, F9⟩ := c.def_ 9 (d := d_l_draw) rfl
  have D9 : Df K mg "_law_draw" s_l_draw := ⟨_, _, F9, He.glo_ok X G (c.fact 9 (f := .glo "_law_draw") rfl)⟩
  obtain ⟨fd10, F10⟩ := c.def_ 10 (d := d_l_rounds) rfl
  have D10 : Df K mg "_law_rounds" s_l_rounds := ⟨_, _, F10, He.glo_ok X G (c.fact 10 (f := .glo "_law_rounds") rfl)⟩
  obtain ⟨fd11, F11⟩ := c.def_ 11 (d := d_l_is_table) rfl
  have D11 : Df K mg "_law_is_table" s_l_is_table := ⟨_, _, F11, He.glo_ok X G (c.fact 11 (f := .glo "_law_is_table") rfl)⟩
  obtain ⟨fd12, F12⟩ := c.def_ 12 (d := d_l_is_rounds) rfl
  have D12 : Df K mg "_law_is_rounds" s_l_is_rounds := ⟨_, _, F12, He.glo_ok X G (c.fact 12 (f := .glo "_law_is_rounds") rfl)⟩
  obtain ⟨fd13, F13⟩ := c.def_ 13 (d := d_l_bent) rfl
  have D13 : Df K mg "_law_bent" s_l_bent := ⟨_, _, F13, He.glo_ok X G (c.fact 13 (f := .glo "_law_bent") rfl)⟩
  obtain ⟨fd14, F14⟩ := c.def_ 14 (d := d_l_near) rfl
  have D14 : Df K mg "_law_near" s_l_near := ⟨_, _, F14, He.glo_ok X G (c.fact 14 (f := .glo "_law_near") rfl)⟩
  obtain ⟨fd15, F15⟩ := c.def_ 15 (d := d_l_great_right) rfl
  have D15 : Df K mg "_law_great_right" s_l_great_right := ⟨_, _, F15, He.glo_ok X G (c.fact 15 (f := .glo "_law_great_right") rfl)⟩
  obtain ⟨fd16, F16⟩ := c.def_ 16 (d := d_l_is_vast) rfl
  have D16 : Df K mg "_law_is_vast" s_l_is_vast := ⟨_, _, F16, He.glo_ok X G (c.fact 16 (f := .glo "_law_is_vast") rfl)⟩
  obtain ⟨fd17, F17⟩ := c.def_ 17 (d := d_law) rfl
  have D17 : Df K mg "law" s_law := ⟨_, _, F17, He.glo_ok X G (c.fact 17 (f := .glo "law") rfl)⟩
  have B : Bn mg := ⟨He.free_ok X G (c.fact 18 (f := .free "isinstance") rfl), He.free_ok X G (c.fact 19 (f := .free "int") rfl), He.free_ok X G (c.fact 20 (f := .free "bool") rfl), He.free_ok X G (c.fact 21 (f := .free "all") rfl), He.free_ok X G (c.fact 22 (f := .free "tuple") rfl), He.free_ok X G (c.fact 23 (f := .free "len") rfl), He.free_ok X G (c.fact 24 (f := .free "any") rfl), He.free_ok X G (c.fact 25 (f := .free "enumerate") rfl), He.free_ok X G (c.fact 26 (f := .free "range") rfl), He.free_ok X G (c.fact 27 (f := .free "min") rfl), He.free_ok X G (c.fact 28 (f := .free "list") rfl), He.free_ok X G (c.fact 29 (f := .free "abs") rfl), He.free_ok X G (c.fact 30 (f := .free "str") rfl), He.free_ok X G (c.fact 31 (f := .free "max") rfl), He.free_ok X G (c.fact 32 (f := .free "repr") rfl)⟩
  have e := hfa.symm.trans (He.glo_ok X G (c.fact 17 (f := .glo "law") rfl))
  cases e
  have b := FunD.bindsA (ps := ["_law_script"]) F17 fun _ _ _ _ _ _ us hl => match us, hl with | [_], _ => rfl
  refine ⟨fd17, fun s v => b s [v] rfl, fun base _ _ => ?_⟩
  have H0 := ok_is_number (P := P) (w := w) (base := base) D0 B
  have H3 := ok_divides (P := P) (w := w) (base := base) D3 B
  have H5 := ok_is_bare (P := P) (w := w) (base := base) D5 B
  have H6 := ok_downs_of (P := P) (w := w) (base := base) D6 B
  have H8 := ok_l_feed (P := P) (w := w) (base := base) D8 B
  have H9 := ok_l_draw (P := P) (w := w) (base := base) D9 B
  have H10 := ok_l_rounds (P := P) (w := w) (base := base) D10 B
  have H11 := ok_l_is_table (P := P) (w := w) (base := base) D11 B
  have H1 := ok_is_row (P := P) (w := w) (base := base) D1 B (h_is_number := H0)
  have H4 := ok_are_downs (P := P) (w := w) (base := base) D4 B (h_divides := H3)
  have H12 := ok_l_is_rounds (P := P) (w := w) (base := base) D12 B (h_l_is_table := H11)
  have H14 := ok_l_near (P := P) (w := w) (base := base) D14 B (h_l_draw := H9) (h_l_rounds := H10)
  have H2 := ok_is_table (P := P) (w := w) (base := base) D2 B (h_is_number := H0) (h_is_row := H1)
  have H7 := ok_is_rounds (P := P) (w := w) (base := base) D7 B (h_is_table := H2) (h_is_bare := H5) (h_are_downs := H4) (h_downs_of := H6)
  have H15 := ok_l_great_right (P := P) (w := w) (base := base) D15 B (h_l_rounds := H10) (h_l_draw := H9) (h_is_rounds := H7) (h_l_is_rounds := H12) (h_downs_of := H6)
  have H13 := ok_l_bent (P := P) (w := w) (base := base) D13 B (h_l_draw := H9)
  have H16 := ok_l_is_vast (P := P) (w := w) (base := base) D16 B
  exact ok_law F17 B (h_l_feed := H8) (h_l_great_right := H15) (h_l_rounds := H10) (h_l_draw := H9) (h_l_bent := H13) (h_l_is_rounds := H12) (h_is_rounds := H7) (h_downs_of := H6) (h_l_near := H14) (h_l_is_vast := H16)
end K55
open PySem PySem.W PySem.Calls PyProof.Rows
set_option maxRecDepth 100000 in
set_option maxHeartbeats 0 in
theorem PySem.Challenge.cw_stepforms_k55_rounds_by_kind_holds : PySem.Challenge.rw_stepforms_k55_rounds_by_kind.Holds := by
  w_on; o_law
  refine HandSHeadRun.head_any (r := OpenLaw.row PySem.Challenge.rw_stepforms_k55_rounds_by_kind)
    (q := view (OpenLaw.row PySem.Challenge.rw_stepforms_k55_rounds_by_kind).prog [21]) (H := K55.hk) (ob := K55.ob)
    (M := 2000) (loose := K55.loose) (d := HandSHeadRun.topDef (OpenLaw.row PySem.Challenge.rw_stepforms_k55_rounds_by_kind).prog 21)
    (kwd := []) K55.ob_eq (by kernel_rfl) (fun s => by kernel_rfl) K55.run (by kernel_rfl) (by kernel_rfl)
    (by kernel_rfl) (by rfl) (by first | assumption | decide +kernel) (by decide +kernel)
    ⟨rfl, rfl, rfl, rfl, rfl, by decide +kernel⟩ ?hw ?hc
  case hw => w_witness2
  case hc =>
    refine Gd.walkG (l := PySem.Challenge.rw_stepforms_k55_rounds_by_kind) (n := 63) (k := 23) (x := "_law_script") rfl
      (by decide) (by kernel_rfl) ⟨rfl, by decide, by decide⟩ ?F
    intro w mg fa h Y G hmg0
    obtain ⟨K, KX, c⟩ := Y
    have hmg : mg ("law" : PySem.Str) = some (.ref fa) := by
      have e : (HandSHeadRun.topDef (OpenLaw.row PySem.Challenge.rw_stepforms_k55_rounds_by_kind).prog 21).name = ("law" : PySem.Str) := by
        kernel_rfl
      rw [← e]
      exact hmg0
    obtain ⟨fd, hb, hF⟩ := K55.facts (P := (PySem.Challenge.rw_stepforms_k55_rounds_by_kind).prog) (w := w) KX G hmg c
    exact ⟨K, fd, K55.spLaw K, KX, hb,
      fun H a ns hl _ hS => ⟨a, ns, rfl, hS, hl, fun _ => rfl⟩, hF⟩
